"""Fields found, signs and fielded programs: points 9 to 12."""

import unittest

from fieldgate.fielding import fielded, signs
from fieldgate.reading import read
from making import SAMPLES, all_whole, doubling, inner, kept, program_made, spoilt

NUM = ("num",)
TOUCHING = ("pair", "first", "second", "cons", "head", "tail")
L = [("list", field, NUM) for field in range(6)]
P = [("pair", field, NUM, NUM) for field in range(6)]


def bare_kind(kind):
    return (kind[0],) + tuple(bare_kind(within) for within in kind[2:])


def kind_fields(kinds):
    """The fields of kinds with fields, in the order of point 9, each once."""
    fields = []
    for kind in kinds:
        if kind != NUM:
            fields += [kind[1]] + kind_fields(kind[2:])
    return list(dict.fromkeys(fields))


def parts_within(part):
    """The parts right within a fielded part."""
    if part[0] in ("number", "name"):
        return []
    return [within for within in part[3 if part[0] == "call" else 1:] if isinstance(within, tuple)]


def part_fields(part):
    """The fields that stand in a fielded part, in the order of point 12, each once."""
    fields = [part[1]] if part[0] in TOUCHING else list(part[2]) if part[0] == "call" else []
    for within in parts_within(part):
        fields += part_fields(within)
    return list(dict.fromkeys(fields))


class Unrolled:
    """A function with all calls written out, each with a copy of its function, so many deep. Places that must
    have one field are beside each other; all that follows from that is what a finest giving makes one."""

    def __init__(self, program, name, deep):
        self.functions = {function[0]: function for function in program}
        self.beside = []
        self.touched = []
        self.takers, self.gives, self.body = self.copy(name, deep)
        self.group = self.groups()

    def fresh(self, kind):
        if kind == NUM:
            return NUM
        self.beside.append([])
        return (kind[0], len(self.beside) - 1) + tuple(self.fresh(within) for within in kind[1:])

    def equal(self, kind, other):
        if kind != NUM:
            self.beside[kind[1]].append(other[1])
            self.beside[other[1]].append(kind[1])
            for within, its in zip(kind[2:], other[2:]):
                self.equal(within, its)

    def copy(self, name, deep):
        name, takers, gives, body = self.functions[name]
        taken = [self.fresh(kind) for taker, kind in takers]
        given = self.fresh(gives)
        if deep == 0:
            return taken, given, None
        kind, part = self.part(body, dict(zip([taker for taker, kind in takers], taken)), deep)
        self.equal(kind, given)
        return taken, given, part

    def part(self, part, names, deep):
        word = part[0]
        if word == "number":
            return NUM, part
        if word == "name":
            return names[part[1]], part
        if word == "nil":
            return self.fresh(("list", part[1])), ("nil",)
        if word == "let":
            kind, given = self.part(part[2], names, deep)
            gives, behind = self.part(part[3], {**names, part[1]: kind}, deep)
            return gives, ("let", part[1], given, behind)
        both = [self.part(within, names, deep) for within in inner(part)]
        kinds = [kind for kind, within in both]
        parts = tuple(within for kind, within in both)
        if word == "call":
            takers, gives, body = self.copy(part[1], deep - 1)
            for taken, kind in zip(takers, kinds):
                self.equal(taken, kind)
            return gives, (word, part[1], takers + [gives]) + parts
        if word in TOUCHING:
            kind, cell = self.cell(word, kinds)
            self.touched.append(cell[1])
            return kind, (word, cell[1]) + parts
        if word == "if":
            kind = self.fresh(bare_kind(kinds[1]))
            self.equal(kind, kinds[1])
            self.equal(kind, kinds[2])
            return kind, (word,) + parts
        return NUM, (word,) + parts

    def cell(self, word, kinds):
        if word == "pair":
            kind = self.fresh(("pair", bare_kind(kinds[0]), bare_kind(kinds[1])))
            self.equal(kind[2], kinds[0])
            self.equal(kind[3], kinds[1])
            return kind, kind
        if word == "cons":
            kind = self.fresh(bare_kind(kinds[1]))
            self.equal(kind[2], kinds[0])
            self.equal(kind, kinds[1])
            return kind, kind
        return {"first": kinds[0][2], "second": kinds[0][-1], "head": kinds[0][2], "tail": kinds[0]}[word], kinds[0]

    def groups(self):
        group = [None] * len(self.beside)
        for start in range(len(group)):
            todo = [start] if group[start] is None else []
            while todo:
                place = todo.pop()
                if group[place] is None:
                    group[place] = start
                    todo += self.beside[place]
        return group

    def sign(self):
        order = list(dict.fromkeys(self.group[place] for place in kind_fields(self.takers + [self.gives])))

        def numbered(kind):
            if kind == NUM:
                return NUM
            return (kind[0], order.index(self.group[kind[1]])) + tuple(numbered(within) for within in kind[2:])

        touched = {self.group[place] for place in self.touched}
        return ([numbered(kind) for kind in self.takers], numbered(self.gives),
                [number for number, group in enumerate(order) if group in touched]), order

    def fielded(self, found):
        """The body, by the signs that were found for all functions."""
        sign, order = self.sign()

        def number(place):
            if self.group[place] not in order:
                order.append(self.group[place])
            return order.index(self.group[place])

        def numbered(part):
            if part[0] in ("number", "name", "nil"):
                return part
            within = part[1:]
            ahead = (part[0],)
            if part[0] in TOUCHING:
                ahead = (part[0], number(part[1]))
                within = part[2:]
            if part[0] == "let":
                ahead = part[:2]
                within = part[2:]
            if part[0] == "call":
                takers, gives, touched = found[part[1]]
                place_of = dict(zip(all_fields(takers + [gives]), all_fields(part[2])))
                ahead = part[:2] + (tuple(number(place_of[field]) for field in touched),)
                within = part[3:]
            return ahead + tuple(numbered(each) for each in within)

        return sign, numbered(self.body)


def all_fields(kinds):
    fields = []
    for kind in kinds:
        if kind != NUM:
            fields += [kind[1]] + all_fields(kind[2:])
    return fields


def copies(program, name, deep):
    """How many bodies are copied for so deep a writing out."""
    if deep == 0:
        return 1
    body = [function[3] for function in program if function[0] == name][0]
    todo = [body]
    many = 1
    while todo and many < 3000:
        part = todo.pop()
        todo += inner(part)
        if part[0] == "call":
            many += copies(program, part[1], deep - 1)
    return many


def expected(program):
    """What points 9 to 12 ask for, or None where that would be written out too long."""
    names = [function[0] for function in program]
    deep = 0
    before = None
    while True:
        if any(copies(program, name, deep + 1) >= 3000 for name in names):
            return None
        found = {name: Unrolled(program, name, deep).sign()[0] for name in names}
        if found == before:
            break
        before = found
        deep += 1
    whole = []
    for name, takers, gives, body in program:
        sign, part = Unrolled(program, name, deep + 1).fielded(found)
        whole.append((name, [taker for taker, kind in takers], sign, part))
    return whole


class Case(unittest.TestCase):
    def found(self, text):
        program = read(text)
        before = kept(program)
        found = fielded(program)
        self.assertEqual(program, before)
        self.assertTrue(all_whole(found))
        self.assertEqual(signs(program), [function[2] for function in found])
        self.assertEqual(program, before)
        return found

    def main(self, body, kind="num", behind=""):
        """The sign and the body of main, and of the functions behind it."""
        found = self.found(f"fun main (n num) {kind} = {body}{behind}")
        self.assertEqual(found[0][:2], ("main", ["n"]))
        self.assertEqual(found[0][2][0], [NUM])
        return found[0][2][1:] + (found[0][3],)

    def sign(self, function):
        """The sign of one function, told without a name: its takers, kind and body."""
        return signs(read(f"fun f {function}; fun main () num = 0"))[0]


N = ("name", "n")
ONE = ("number", 1)
NIL = ("nil",)


class Bodies(Case):
    def test_forms_without_fields(self):
        for body in ["n", "5", "(plus n 1)", "(minus 1 n)", "(times n n)", "(less n n)", "(let x n (plus x 1))",
                     "(if n 1 (if 2 n 3))"]:
            self.assertEqual(self.main(body), (NUM, [], read(f"fun main (n num) num = {body}")[0][3]))
        self.assertEqual(self.main("(call main n)"), (NUM, [], ("call", "main", (), N)))
        self.assertEqual(self.main("(let main 1 (call main main))"),
                         (NUM, [], ("let", "main", ONE, ("call", "main", (), ("name", "main")))))

    def test_each_form_that_touches(self):
        for body, wanted in [
                ("(first (pair n 1))", ("first", 0, ("pair", 0, N, ONE))),
                ("(second (pair n 1))", ("second", 0, ("pair", 0, N, ONE))),
                ("(head (cons n (nil num)))", ("head", 0, ("cons", 0, N, NIL))),
                ("(none (tail (cons n (nil num))))", ("none", ("tail", 0, ("cons", 0, N, NIL)))),
                ("(none (cons n (nil num)))", ("none", ("cons", 0, N, NIL))),
                ("(head (nil num))", ("head", 0, NIL))]:
            self.assertEqual(self.main(body), (NUM, [], wanted))

    def test_what_touches_nothing_has_no_number(self):
        self.assertEqual(self.main("(none (nil num))"), (NUM, [], ("none", NIL)))
        self.assertEqual(self.main("(none (nil pair num list num))"), (NUM, [], ("none", NIL)))
        self.assertEqual(self.main("(let x (nil num) (let y (if n x (nil num)) (none y)))"),
                         (NUM, [], ("let", "x", NIL, ("let", "y", ("if", N, ("name", "x"), NIL), ("none", ("name", "y"))))))
        # The list's cells are laid, but none of what would lie in its member's field.
        self.assertEqual(self.main("(none (cons (nil num) (nil list num)))"), (NUM, [], ("none", ("cons", 0, NIL, NIL))))
        # The field of the untouched list has no number, so the next one has 0.
        self.assertEqual(self.main("(let x (nil num) (plus (none x) (head (nil num))))"),
                         (NUM, [], ("let", "x", NIL, ("plus", ("none", ("name", "x")), ("head", 0, NIL)))))

    def test_a_parts_own_field_is_numbered_ahead(self):
        self.assertEqual(self.main("(first (head (cons (pair n 1) (nil pair num num))))"),
                         (NUM, [], ("first", 0, ("head", 1, ("cons", 1, ("pair", 0, N, ONE), NIL)))))
        self.assertEqual(self.main("(head (first (pair (cons n (nil num)) (pair 1 1))))"),
                         (NUM, [], ("head", 0, ("first", 1, ("pair", 1, ("cons", 0, N, NIL), ("pair", 2, ONE, ONE))))))
        self.assertEqual(self.main("(plus (first (pair n 1)) (plus (head (nil num)) (second (pair 1 n))))"),
                         (NUM, [], ("plus", ("first", 0, ("pair", 0, N, ONE)),
                                    ("plus", ("head", 1, NIL), ("second", 2, ("pair", 2, ONE, N))))))

    def test_the_calls_fields_are_numbered_ahead_of_its_parts(self):
        behind = "; fun f (p pair num num, l list num) num = (plus (head l) (first p))"
        self.assertEqual(self.main("(call f (first (pair (pair n 1) 1)) (cons n (nil num)))", behind=behind),
                         (NUM, [], ("call", "f", (0, 1), ("first", 2, ("pair", 2, ("pair", 0, N, ONE), ONE)),
                                    ("cons", 1, N, NIL))))

    def test_the_signs_fields_keep_their_numbers(self):
        found = self.found("fun f (l list num, p pair num num) list num = (let q (pair 1 1) (cons (first q) (cons (second p) l)));"
                           "fun main () num = 0")[0]
        self.assertEqual(found, ("f", ["l", "p"], ([L[0], P[1]], L[0], [0, 1]), (
            "let", "q", ("pair", 2, ONE, ONE), ("cons", 0, ("first", 2, ("name", "q")), (
                "cons", 0, ("second", 1, ("name", "p")), ("name", "l"))))))

    def test_numbers_go_on_behind_untouched_fields_of_the_sign(self):
        found = self.found("fun f (l list list num, p pair num num) num = (head (nil num)); fun main () num = 0")[0]
        self.assertEqual(found[2], ([("list", 0, L[1]), P[2]], NUM, []))
        self.assertEqual(found[3], ("head", 3, NIL))

    def test_the_example_of_point_4(self):
        self.assertEqual(self.found(SAMPLES["sum"][0]), [
            ("main", ["n"], ([NUM], NUM, []), ("call", "sum", (0,), ("cons", 0, N, NIL))),
            ("sum", ["l"], ([L[0]], NUM, [0]), (
                "if", ("none", ("name", "l")), ("number", 0),
                ("plus", ("head", 0, ("name", "l")), ("call", "sum", (0,), ("tail", 0, ("name", "l"))))))])

    def test_no_takers(self):
        found = self.found("fun main () list num = (call f); fun f () list num = (cons 1 (nil num))")
        self.assertEqual(found, [("main", [], ([], L[0], [0]), ("call", "f", (0,))),
                                 ("f", [], ([], L[0], [0]), ("cons", 0, ONE, NIL))])

    def test_the_programs_order(self):
        found = self.found("fun b (x num) num = x; fun main () num = 0; fun a () list num = (nil num)")
        self.assertEqual([function[:2] for function in found], [("b", ["x"]), ("main", []), ("a", [])])
        self.assertEqual([function[2] for function in found], [([NUM], NUM, []), ([], NUM, []), ([], L[0], [])])


class Signs(Case):
    def test_numbers_of_a_sign(self):
        self.assertEqual(self.sign("() num = 0"), ([], NUM, []))
        self.assertEqual(self.sign("(a num, b list num, c num, d pair num num) num = 0"), ([NUM, L[0], NUM, P[1]], NUM, []))
        self.assertEqual(self.sign("(a pair list num list list num) list num = (nil num)"),
                         ([("pair", 0, L[1], ("list", 2, L[3]))], L[4], []))
        self.assertEqual(self.sign("(a list pair num num, b list num) list list num = (nil list num)"),
                         ([("list", 0, P[1]), L[2]], ("list", 3, L[4]), []))

    def test_what_is_given_again_has_its_number(self):
        self.assertEqual(self.sign("(a list num, b list num) list num = b"), ([L[0], L[1]], L[1], []))
        self.assertEqual(self.sign("(a list num, b list num) list num = (if 1 a b)"), ([L[0], L[0]], L[0], []))
        self.assertEqual(self.sign("(a list num, b list num) pair list num list num = (pair b a)"),
                         ([L[0], L[1]], ("pair", 2, L[1], L[0]), [2]))
        self.assertEqual(self.sign("(a list num) pair list num list num = (pair a a)"), ([L[0]], ("pair", 1, L[0], L[0]), [1]))
        self.assertEqual(self.sign("(a list num) list num = (tail a)"), ([L[0]], L[0], [0]))
        self.assertEqual(self.sign("(a list list num) list num = (head a)"), ([("list", 0, L[1])], L[1], [0]))
        self.assertEqual(self.sign("(a pair list num list num) list num = (second a)"), ([("pair", 0, L[1], L[2])], L[2], [0]))
        self.assertEqual(self.sign("(a pair list num list num) list num = (first a)"), ([("pair", 0, L[1], L[2])], L[1], [0]))

    def test_cons_makes_the_members_one(self):
        self.assertEqual(self.sign("(a list num, b list list num) list list num = (cons a b)"),
                         ([L[0], ("list", 1, L[0])], ("list", 1, L[0]), [1]))
        self.assertEqual(self.sign("(a list num, b list num) list list num = (cons a (cons b (nil list num)))"),
                         ([L[0], L[0]], ("list", 1, L[0]), [1]))
        self.assertEqual(self.sign("(a pair list num num, b list pair list num num) num = (none (cons a b))"),
                         ([("pair", 0, L[1], NUM), ("list", 2, ("pair", 0, L[1], NUM))], NUM, [2]))

    def test_a_pair_keeps_its_halves_apart(self):
        self.assertEqual(self.sign("(a list num, b list num) num = (head (first (pair a b)))"), ([L[0], L[1]], NUM, [0]))
        self.assertEqual(self.sign("(a list num, b list num) num = (head (second (pair a b)))"), ([L[0], L[1]], NUM, [1]))

    def test_if_makes_one_all_the_way_down(self):
        self.assertEqual(self.sign("(a pair list num pair num num, b pair list num pair num num) num = (let x (if 1 a b) 0)"),
                         ([("pair", 0, L[1], P[2])] * 2, NUM, []))
        # Only the members, not the lists.
        self.assertEqual(self.sign("(a list list num, b list list num) num = (none (if 1 (head a) (head b)))"),
                         ([("list", 0, L[1]), ("list", 2, L[1])], NUM, [0, 2]))

    def test_lets_and_hidden_names(self):
        self.assertEqual(self.sign("(a list num, b list num) list num = (let c a (let a b (if 1 a a)))"), ([L[0], L[1]], L[1], []))
        self.assertEqual(self.sign("(a list num, b list num) list num = (let x (let a b 1) a)"), ([L[0], L[1]], L[0], []))

    def test_touched_is_rising(self):
        self.assertEqual(self.sign("(a list num, b list num, c list num, d list num) num = (plus (head d) (plus (head b) (head a)))")[2],
                         [0, 1, 3])
        self.assertEqual(self.sign("(a pair num num, b pair num num) num = (plus (second b) (first b))")[2], [1])

    def test_own_fields_are_not_in_the_sign(self):
        self.assertEqual(self.sign("(a list num) num = (head (cons 1 (nil num)))"), ([L[0]], NUM, []))


class Calls(Case):
    IDENTITY = "; fun id (l list num) list num = l"
    HEAD = "; fun hd (l list num) num = (head l)"

    def test_each_call_has_fields_of_its_own(self):
        found = self.main("(pair (call id (cons 1 (nil num))) (call id (cons n (nil num))))", "pair list num list num", self.IDENTITY)
        self.assertEqual(found, (("pair", 0, L[1], L[2]), [0, 1, 2], (
            "pair", 0, ("call", "id", (), ("cons", 1, ONE, NIL)), ("call", "id", (), ("cons", 2, N, NIL)))))

    def test_touching_calls(self):
        found = self.main("(plus (call hd (cons 1 (nil num))) (call hd (nil num)))", behind=self.HEAD)
        self.assertEqual(found[2], ("plus", ("call", "hd", (0,), ("cons", 0, ONE, NIL)), ("call", "hd", (1,), NIL)))

    def test_fields_in_the_order_of_those_that_are_touched(self):
        behind = "; fun f (a list num, b list num, c list num) num = (plus (head c) (head a))"
        found = self.main("(let x (cons 1 (nil num)) (let y (cons 1 (nil num)) (let z (cons 1 (nil num)) (call f z y x))))", behind=behind)
        self.assertEqual(found[2][2][1], 0)
        self.assertEqual(found[2][3][3][3][:3], ("call", "f", (2, 0)))

    def test_one_field_for_several(self):
        behind = "; fun f (a list num, b list num) num = (plus (head b) (head a))"
        found = self.main("(let x (cons 1 (nil num)) (call f x x))", behind=behind)
        self.assertEqual(found[2][3], ("call", "f", (0, 0), ("name", "x"), ("name", "x")))
        found = self.main("(let x (nil num) (call f x x))", behind=behind)
        self.assertEqual(found[2][3], ("call", "f", (0, 0), ("name", "x"), ("name", "x")))

    def test_what_f_makes_one_the_call_makes_one(self):
        behind = "; fun f (a list num, b list num) list num = (if 1 a b)"
        found = self.main("(let x (cons 1 (nil num)) (let y (cons 2 (nil num)) (plus (none (call f x y)) (head y))))", behind=behind)
        self.assertEqual([found[2][2][1], found[2][3][2][1]], [0, 0])
        behind = "; fun f (a list num, b list num) list num = a"
        found = self.main("(let x (cons 1 (nil num)) (let y (cons 2 (nil num)) (plus (none (call f x y)) (head y))))", behind=behind)
        self.assertEqual([found[2][2][1], found[2][3][2][1]], [0, 1])

    def test_a_field_of_what_a_call_gives_alone(self):
        behind = "; fun f () list num = (cons 1 (nil num))"
        self.assertEqual(self.main("(plus (none (call f)) (none (call f)))", behind=behind)[2],
                         ("plus", ("none", ("call", "f", (0,))), ("none", ("call", "f", (1,)))))

    def test_a_function_that_is_called_ahead_of_its_place(self):
        for text in ["fun main () num = (call a (cons 1 (nil num))); fun a (l list num) num = (call b l); fun b (l list num) num = (head l)",
                     "fun b (l list num) num = (head l); fun a (l list num) num = (call b l); fun main () num = (call a (cons 1 (nil num)))"]:
            found = {function[0]: function for function in self.found(text)}
            self.assertEqual(found["a"][2:], (([L[0]], NUM, [0]), ("call", "b", (0,), ("name", "l"))))
            self.assertEqual(found["main"][3], ("call", "a", (0,), ("cons", 0, ONE, NIL)))


class Rings(Case):
    def test_a_call_of_itself_has_fields_of_its_own(self):
        # The takers change places from call to call, and have nothing to do with each other.
        found = self.found(SAMPLES["swap"][0])[1]
        self.assertEqual(found[2], ([NUM, L[0], L[1]], NUM, [0, 1]))
        self.assertEqual(found[3][2], ("call", "f", (1, 0), ("minus", N, ONE), ("name", "b"), ("name", "a")))
        # Each call's pair is a new field, which is not the taker's.
        found = self.found(SAMPLES["fresh"][0])[1]
        self.assertEqual(found[2], ([NUM, P[0]], NUM, [0]))
        self.assertEqual(found[3][2][2], ("call", "go", (1,), ("minus", N, ONE), ("pair", 1, ("second", 0, ("name", "p")), N)))

    def test_made_one_only_in_a_later_turn(self):
        self.assertEqual(self.sign("(n num, a list num, b list num) list num = (if n (call f (minus n 1) b a) a)"),
                         ([NUM, L[0], L[0]], L[0], []))
        # Round by round: a with what is given, then b, then c, then d.
        self.assertEqual(self.sign("(a list num, b list num, c list num, d list num) list num = (if 1 (call f b c d a) a)"),
                         ([L[0]] * 4, L[0], []))
        self.assertEqual(self.sign("(a list num, b list num, c list num, d list num) list num = (if 1 (call f b a d c) a)"),
                         ([L[0], L[0], L[1], L[2]], L[0], []))

    def test_touched_only_in_a_later_turn(self):
        self.assertEqual(self.sign("(a list num, b list num, c list num, d list num) num = (if 1 (call f b c d a) (head a))"),
                         ([L[0], L[1], L[2], L[3]], NUM, [0, 1, 2, 3]))
        self.assertEqual(self.sign("(a list num, b list num, c list num, d list num) num = (if 1 (call f b a d c) (head a))")[2], [0, 1])
        self.assertEqual(self.sign("(a list num, b list num, c list num, d list num) num = (if 1 (call f b c d d) (head d))")[2], [3])

    def test_the_least_is_touched(self):
        for text in ["fun f (l list num) num = (call f l); fun main () num = (call f (nil num))",
                     "fun f (l list num) num = (call g l); fun g (l list num) num = (call f l); fun main () num = (call f (nil num))"]:
            found = self.found(text)
            for function in found[:-1]:
                self.assertEqual(function[2], ([L[0]], NUM, []))
                self.assertEqual(function[3][2], ())
            self.assertEqual(found[-1][3], ("call", "f", (), NIL))

    def test_touched_in_a_ring(self):
        found = self.found("fun f (l list num, m list num) num = (call g m l); fun g (l list num, m list num) num = (call h l m);"
                           "fun h (l list num, m list num) num = (if (none l) (call f l m) (head m)); fun main () num = 0")
        # h touches its second, so g its second, f its first, and then by the ring all the others.
        self.assertEqual([function[2] for function in found[:3]], [([L[0], L[1]], NUM, [0, 1])] * 3)
        found = self.found("fun f (l list num, m list num) num = (call g l m); fun g (l list num, m list num) num = (call h l m);"
                           "fun h (l list num, m list num) num = (if (none l) (call f l m) (head m)); fun main () num = 0")
        self.assertEqual([function[2] for function in found[:3]], [([L[0], L[1]], NUM, [1])] * 3)
        self.assertEqual([function[3][2] for function in found[:2]], [(1,), (1,)])

    def test_kinds_in_a_ring(self):
        found = self.found("fun f (l list num, m list num) list num = (call g m l); fun g (l list num, m list num) list num = "
                           "(if (none l) m (call f l m)); fun main () num = 0")
        # g gives its m, so f gives its l, so g gives its l, too.
        self.assertEqual([function[2] for function in found[:2]], [([L[0], L[0]], L[0], [])] * 2)

    def test_a_function_that_never_gives(self):
        self.assertEqual(self.sign("(l list num) list list num = (call f l)"), ([L[0]], ("list", 1, L[2]), []))
        self.assertEqual(self.sign("(l list num) list list num = (cons l (call f l))"), ([L[0]], ("list", 1, L[0]), [1]))
        self.assertEqual(self.sign("(l list num) list list num = (tail (call f l))"), ([L[0]], ("list", 1, L[2]), [1]))


class AsUnrolled(unittest.TestCase):
    def compare(self, program):
        before = kept(program)
        found = fielded(program)
        self.assertEqual(program, before)
        wanted = expected(program)
        if wanted is not None:
            self.assertEqual(found, wanted)
        return wanted is not None

    def test_samples(self):
        for name, (text, rows) in SAMPLES.items():
            with self.subTest(name):
                self.assertTrue(self.compare(read(text)))

    def test_made_programs(self):
        many = 0
        for seed in range(700):
            with self.subTest(seed):
                many += self.compare(program_made(seed))
        self.assertGreater(many, 500)


class Looks(unittest.TestCase):
    """What points 9, 10 and 12 say of each fielded program, without knowing which fields are due."""

    def bare(self, part, bare):
        """Whether a fielded part is a part of point 5 with fields."""
        self.assertEqual(part[0], bare[0])
        if part[0] == "nil":
            self.assertEqual(part, ("nil",))
        elif part[0] in ("number", "name"):
            self.assertEqual(part, bare)
        elif part[0] in ("let", "call"):
            self.assertEqual(part[1], bare[1])
        if part[0] in TOUCHING:
            self.assertIs(type(part[1]), int)
        if part[0] == "call":
            self.assertIs(type(part[2]), tuple)
        self.assertEqual(len(parts_within(part)), len(inner(bare)))
        for within, its in zip(parts_within(part), inner(bare)):
            self.bare(within, its)

    def look(self, program):
        found = fielded(program)
        self.assertIs(type(found), list)
        self.assertTrue(all_whole(found))
        self.assertEqual([function[0] for function in found], [function[0] for function in program])
        touches = {function[0]: function[2][2] for function in found}
        for (name, names, sign, body), (its, takers, kind, part) in zip(found, program):
            self.assertEqual(names, [taker for taker, taken in takers])
            self.assertEqual([bare_kind(taken) for taken in sign[0]], [taken for taker, taken in takers])
            self.assertEqual(bare_kind(sign[1]), kind)
            self.assertEqual([type(within) for within in sign], [list, tuple, list])
            own = kind_fields(sign[0] + [sign[1]])
            self.assertEqual(own, list(range(len(own))))
            stand = part_fields(body)
            self.assertEqual([field for field in stand if field >= len(own)],
                             list(range(len(own), len(set(stand) | set(own)))))
            self.assertEqual(sign[2], sorted(field for field in stand if field < len(own)))
            self.bare(body, part)
            todo = [body]
            while todo:
                within = todo.pop()
                todo += parts_within(within)
                if within[0] == "call":
                    self.assertEqual(len(within[2]), len(touches[within[1]]))
        self.assertEqual(signs(program), [function[2] for function in found])

    def test_all(self):
        for seed in range(700):
            with self.subTest(seed):
                self.look(program_made(seed))
        for text, rows in SAMPLES.values():
            self.look(read(text))

    def test_beyond_the_bounds(self):
        kind = NUM
        for turn in range(10):
            kind = ("pair", ("list", kind), NUM)
        program = [(f"f{place}", [(f"x{taker}", kind) for taker in range(6)], kind,
                    ("call", f"f{(place + 1) % 9}") + tuple(("name", f"x{(taker + 1) % 6}") for taker in range(6)))
                   for place in range(9)]
        program[0] = program[0][:3] + (("if", ("number", 1), program[0][3], ("name", "x0")),)
        program.append(("main", [], NUM, ("number", 1)))
        self.look(program)
        # Nine calls on, the fourth taker stands where the first one stood, and the other way round.
        self.assertEqual([kind[1] for kind in signs(program)[0][0]], [0, 20, 40, 0, 60, 80])

    def test_kinds_of_a_great_length(self):
        # The kind has words by the hundreds of millions, but no more than 28 fields.
        program = read(f"fun main (x num) num = (let y {doubling(28)} 0)")
        self.look(program)
        self.assertEqual(part_fields(fielded(program)[0][3]), list(range(28)))
        program = read(f"fun main (x num) num = (let y {doubling(26)} (let z (if 1 y y) 0))")
        self.look(program)
        program = read(f"fun main (x num) num = (let y (if 1 {doubling(13)} {doubling(13)}) 0)")
        self.look(program)
        self.assertEqual(len(part_fields(fielded(program)[0][3])), 13)


class Owned(unittest.TestCase):
    def test_what_was_told_is_spoilt(self):
        programs = [program_made(seed) for seed in range(40)] + [read(text) for text, rows in SAMPLES.values()]
        for program in programs:
            before = kept(program)
            found = fielded(program)
            told = signs(program)
            wanted = kept((found, told))
            spoilt(found)
            self.assertEqual(told, wanted[1])
            spoilt(told)
            self.assertEqual((fielded(program), signs(program)), wanted)
            self.assertEqual(program, before)

    def test_each_list_is_a_new_one(self):
        program = read("fun main (n num) num = n; fun f (n num) num = n; fun g (n num) num = n")
        lists = []
        for found in (fielded(program), fielded(program)):
            lists.append(found)
            for name, names, sign, body in found:
                lists += [names, sign[0], sign[2]]
        for found in (signs(program), signs(program)):
            lists.append(found)
            for sign in found:
                lists += [sign[0], sign[2]]
        for function in program:
            lists.append(function[1])
        self.assertEqual(len({id(each) for each in lists}), len(lists))

    def test_what_was_handed_in_is_changed_later(self):
        text = SAMPLES["sort"][0]
        program = read(text)
        found = fielded(program)
        told = signs(program)
        wanted = kept((found, told))
        spoilt(program)
        self.assertEqual((found, told), wanted)
        self.assertEqual((fielded(read(text)), signs(read(text))), wanted)


if __name__ == "__main__":
    unittest.main()
