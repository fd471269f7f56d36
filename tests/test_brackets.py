"""What is touched, and brackets: points 3, 13 and 14."""

import random
import unittest

from fieldgate.brackets import placed, touched
from fieldgate.errors import Empty, GateError, TooDeep, TooGreat, TooLong
from fieldgate.fielding import fielded
from fieldgate.plainly import plain_run
from fieldgate.reading import read
from making import SAMPLES, all_whole, kept, main_of, program_made, spoilt

NUM = ("num",)
N = ("name", "n")
ONE = ("number", 1)
NIL = ("nil",)
TOUCHING = ("pair", "first", "second", "cons", "head", "tail")
HIDDEN = {"number": 2, "name": 2, "let": 2, "call": 3, "field": 2, **{word: 2 for word in TOUCHING}}


def within(part):
    """The parts right within a fielded or placed part."""
    return part[HIDDEN.get(part[0], 1):]


def own(part):
    """The fields that a part touches by its own word."""
    return [part[1]] if part[0] in TOUCHING else list(part[2]) if part[0] == "call" else []


def all_parts(part):
    parts = [part]
    for each in within(part):
        parts += all_parts(each)
    return parts


def bare(part):
    """A placed part without its brackets."""
    if part[0] == "field":
        return bare(part[2])
    hidden = HIDDEN.get(part[0], 1)
    return part[:hidden] + tuple(bare(each) for each in part[hidden:])


def sign_fields(sign):
    def fields(kind):
        return [] if kind == NUM else [kind[1]] + [field for each in kind[2:] for field in fields(each)]
    return {field for kind in sign[0] + [sign[1]] for field in fields(kind)}


class Field:
    def __init__(self, number):
        self.number = number
        self.open = True


class Cell:
    def __init__(self, word, field, first, second):
        self.word = word
        self.field = field
        self.both = (first, second)


class Broken(Exception):
    """A promise of point 3 does not hold."""


class Runner:
    """Runs a placed program with fields that are open or shut; log is the log of point 17.

    Frames has, for each opening, cell laid, look and call, its word and the fields of the frame in which it is:
    those of the touched fields of the function, in order, and then those of the brackets round the place.
    """

    def __init__(self, program, most):
        self.functions = {function[0]: function for function in program}
        self.most = most
        self.calls = 0
        self.opened = 0
        self.log = []
        self.frames = []

    def open_field(self):
        field = Field(self.opened)
        self.opened += 1
        self.log.append(("open", field.number))
        return field

    def shut_field(self, field):
        field.open = False
        self.log.append(("shut", field.number))

    def at(self, word, fields):
        self.frames.append((word, [field.number for field in fields.values()]))

    def told(self, value):
        if not isinstance(value, Cell):
            return [] if value is None else value
        if not value.field.open:
            raise Broken("told out of a field that is shut")
        first, second = [self.told(half) for half in value.both]
        return (first, second) if value.word == "pair" else [first] + second

    def size(self, value):
        return 1 + sum(self.size(half) for half in value.both) if isinstance(value, Cell) else 1

    def work(self, part, names, fields, depth):
        word = part[0]
        if word == "number":
            return part[1]
        if word == "name":
            return names[part[1]]
        if word == "nil":
            return None
        if word == "field":
            if part[1] in fields:
                raise Broken("a field is opened within itself")
            field = self.open_field()
            value = self.work(part[2], names, {**fields, part[1]: field}, depth)
            self.shut_field(field)
            return value
        if word == "let":
            return self.work(part[3], {**names, part[1]: self.work(part[2], names, fields, depth)}, fields, depth)
        if word == "if":
            return self.work(part[2] if self.work(part[1], names, fields, depth) else part[3], names, fields, depth)
        given = [self.work(each, names, fields, depth) for each in within(part)]
        for number in own(part):
            if number not in fields or not fields[number].open:
                raise Broken("touched outside its brackets")
        if word == "call":
            return self.call(part, given, fields, depth)
        if word in TOUCHING:
            value = self.touch(word, fields[part[1]], given)
            self.at("lay" if word in ("pair", "cons") else "look", fields)
            return value
        return self.reckon(word, given)

    def call(self, part, given, fields, depth):
        if self.calls == self.most:
            raise TooLong
        if depth == 12:
            raise TooDeep
        self.calls += 1
        name, names, sign, body = self.functions[part[1]]
        frame = {number: fields[its] for number, its in zip(sign[2], part[2], strict=True)}
        self.at("call", frame)
        return self.work(body, dict(zip(names, given)), frame, depth + 1)

    def touch(self, word, field, given):
        if word in ("pair", "cons"):
            cell = Cell(word, field, given[0], given[1])
            if self.size(cell) > 1000:
                raise TooGreat
            self.log.append(("lay", field.number))
            return cell
        if given[0] is None:
            raise Empty
        if given[0].field is not field or not field.open:
            raise Broken("looked at in another field, or in one that is shut")
        self.log.append(("look", field.number))
        return given[0].both[0 if word in ("first", "head") else 1]

    def reckon(self, word, given):
        if word in ("less", "none"):
            return int(given[0] < given[1] if word == "less" else given[0] is None)
        number = {"plus": lambda a, b: a + b, "minus": lambda a, b: a - b, "times": lambda a, b: a * b}[word](*given)
        if abs(number) >= 10 ** 60:
            raise TooGreat
        return number

    def run(self, numbers):
        name, names, sign, body = self.functions["main"]
        fields = {field: self.open_field() for field in sign[2]}
        value = self.told(self.work(body, dict(zip(names, numbers)), fields, 0))
        for field in reversed(list(fields.values())):
            self.shut_field(field)
        return value


def outcome(run):
    try:
        return run()
    except GateError as error:
        return type(error)


class Touched(unittest.TestCase):
    def touches(self, part, fields):
        before = kept(part)
        found = touched(part)
        self.assertEqual(found, fields)
        self.assertIs(type(found), list)
        found.append("spoilt")
        self.assertEqual(touched(part), fields)
        self.assertEqual(part, before)

    def test_each_form(self):
        pair = ("pair", 4, N, ONE)
        for part, fields in [
                (N, []), (ONE, []), (NIL, []), (("plus", N, ONE), []), (("none", NIL), []), (("let", "x", N, ONE), []),
                (("if", N, ONE, N), []), (pair, [4]), (("cons", 2, N, NIL), [2]), (("first", 3, N), [3]),
                (("second", 3, N), [3]), (("head", 0, N), [0]), (("tail", 1, N), [1]), (("call", "f", ()), []),
                (("call", "f", (3, 1, 3)), [1, 3]), (("call", "f", (5,), pair), [4, 5]), (("call", "f", (), pair, N, ONE, NIL), [4]),
                (("plus", pair, ("head", 0, N)), [0, 4]), (("minus", N, pair), [4]), (("times", pair, pair), [4]),
                (("less", N, ("less", N, pair)), [4]), (("let", "x", pair, N), [4]), (("let", "x", N, pair), [4]),
                (("if", pair, N, N), [4]), (("if", N, pair, N), [4]), (("if", N, N, pair), [4]),
                (("none", ("tail", 7, ("cons", 7, N, NIL))), [7]), (("pair", 1, pair, ("pair", 0, N, N)), [0, 1, 4]),
                (("cons", 9, pair, NIL), [4, 9]), (("first", 10, ("pair", 10, pair, N)), [4, 10]),
                (("second", 2, pair), [2, 4]), (("head", 2, pair), [2, 4]),
                (("field", 4, pair), [4]), (("field", 4, ("field", 5, ("first", 5, ("pair", 5, pair, N)))), [4, 5]),
                (("plus", ("field", 4, pair), ("field", 1, ("head", 1, NIL))), [1, 4])]:
            with self.subTest(part):
                self.touches(part, fields)

    def test_a_number_is_no_field(self):
        self.touches(("number", 7), [])
        self.touches(("plus", ("number", 7), ("number", 8)), [])

    def test_made_programs(self):
        for seed in range(150):
            for program in (fielded(program_made(seed)), placed(fielded(program_made(seed)))):
                for function in program:
                    for part in all_parts(function[3]):
                        fields = sorted({field for each in all_parts(part) for field in own(each)})
                        self.assertEqual(touched(part), fields)


class Case(unittest.TestCase):
    def placed(self, text):
        program = fielded(read(text))
        before = kept(program)
        found = placed(program)
        self.assertEqual(program, before)
        self.assertTrue(all_whole(found))
        return found

    def main(self, body, kind="num", behind=""):
        return self.placed(f"fun main (n num) {kind} = {body}{behind}")[0][3]


class Examples(Case):
    def test_round_the_part_that_touches(self):
        pair = ("field", 0, ("pair", 0, N, ONE))
        self.assertEqual(self.main("(let x (pair n 1) n)"), ("let", "x", pair, N))
        self.assertEqual(self.main("(let x n (let x (pair n 1) 1))"), ("let", "x", N, ("let", "x", pair, ONE)))
        self.assertEqual(self.main("(first (pair n 1))"), ("field", 0, ("first", 0, ("pair", 0, N, ONE))))
        self.assertEqual(self.main("(plus 1 (head (nil num)))"), ("plus", ONE, ("field", 0, ("head", 0, NIL))))
        self.assertEqual(self.main("(none (cons n (nil num)))"), ("none", ("field", 0, ("cons", 0, N, NIL))))
        self.assertEqual(self.main("(none (tail (cons n (nil num))))"),
                         ("none", ("field", 0, ("tail", 0, ("cons", 0, N, NIL)))))

    def test_round_several_parts_that_touch(self):
        x = ("name", "x")
        self.assertEqual(self.main("(let x (pair n 1) (plus 1 (first x)))"),
                         ("field", 0, ("let", "x", ("pair", 0, N, ONE), ("plus", ONE, ("first", 0, x)))))
        self.assertEqual(self.main("(plus 1 (let x (pair n 1) (first x)))"),
                         ("plus", ONE, ("field", 0, ("let", "x", ("pair", 0, N, ONE), ("first", 0, x)))))
        self.assertEqual(self.main("(if n (let x (cons n (nil num)) (if (none x) (head x) (head x))) 1)"),
                         ("if", N, ("field", 0, ("let", "x", ("cons", 0, N, NIL), (
                             "if", ("none", x), ("head", 0, x), ("head", 0, x)))), ONE))

    def test_a_taker_that_is_looked_at_in_two_branches(self):
        x = ("name", "x")
        self.assertEqual(self.main("(let x (nil num) (plus 1 (if n (head x) (head x))))"),
                         ("let", "x", NIL, ("plus", ONE, ("field", 0, ("if", N, ("head", 0, x), ("head", 0, x))))))
        self.assertEqual(self.main("(let x (nil num) (plus 1 (if (head x) 1 (head x))))"),
                         ("let", "x", NIL, ("plus", ONE, ("field", 0, ("if", ("head", 0, x), ONE, ("head", 0, x))))))
        self.assertEqual(self.main("(let x (nil num) (plus 1 (if n 1 (head x))))"),
                         ("let", "x", NIL, ("plus", ONE, ("if", N, ONE, ("field", 0, ("head", 0, x))))))
        self.assertEqual(self.main("(let x (nil num) (plus (plus 1 (head x)) (head x)))"),
                         ("let", "x", NIL, ("field", 0, ("plus", ("plus", ONE, ("head", 0, x)), ("head", 0, x)))))

    def test_several_round_one_part(self):
        # Two fields that the same call touches, and two that two calls touch.
        behind = "; fun f (a list num, b list num) num = (plus (head a) (head b))"
        self.assertEqual(self.main("(plus 1 (call f (nil num) (nil num)))", behind=behind),
                         ("plus", ONE, ("field", 0, ("field", 1, ("call", "f", (0, 1), NIL, NIL)))))
        x, y = ("name", "x"), ("name", "y")
        calls = ("plus", ("call", "f", (0, 1), x, y), ("call", "f", (1, 0), y, x))
        self.assertEqual(self.main("(let x (nil num) (let y (nil num) (plus (call f x y) (call f y x))))", behind=behind),
                         ("let", "x", NIL, ("let", "y", NIL, ("field", 0, ("field", 1, calls)))))

    def test_one_within_another(self):
        x, y = ("name", "x"), ("name", "y")
        looks = ("plus", ("first", 1, y), ("first", 0, x))
        self.assertEqual(self.main("(let x (pair n 1) (let y (pair 1 n) (plus (first y) (first x))))"),
                         ("field", 0, ("let", "x", ("pair", 0, N, ONE),
                                       ("field", 1, ("let", "y", ("pair", 1, ONE, N), looks)))))

    def test_some_round_one_part_and_others_within(self):
        h = [("head", field, NIL) for field in range(4)]
        body = ("plus", ("plus", h[3], h[2]), ("plus", h[0], ("plus", h[2], ("plus", h[3], ("plus", h[1], h[1])))))
        inside = ("plus", h[2], ("plus", h[3], ("field", 1, ("plus", h[1], h[1]))))
        self.assertEqual(placed([("main", [], ([], NUM, []), body)])[0][3],
                         ("field", 2, ("field", 3, ("plus", ("plus", h[3], h[2]), ("plus", ("field", 0, h[0]), inside)))))

    def test_the_signs_fields_have_no_bracket(self):
        text = "fun f (l list num, m list num) list num = (cons (head m) (cons (head (cons 1 (nil num))) l)); fun main () num = 0"
        self.assertEqual(self.placed(text)[0], (
            "f", ["l", "m"], ([("list", 0, NUM), ("list", 1, NUM)], ("list", 0, NUM), [0, 1]), (
                "cons", 0, ("head", 1, ("name", "m")), ("cons", 0, (
                    "field", 2, ("head", 2, ("cons", 2, ONE, NIL))), ("name", "l")))))
        self.assertEqual(self.main("(cons n (nil num))", "list num"), ("cons", 0, N, NIL))

    def test_calls(self):
        behind = "; fun sum (l list num) num = (if (none l) 0 (plus (head l) (call sum (tail l))))"
        self.assertEqual(self.main("(call sum (cons n (nil num)))", behind=behind),
                         ("field", 0, ("call", "sum", (0,), ("cons", 0, N, NIL))))
        self.assertEqual(self.main("(plus (call sum (nil num)) (call sum (cons n (nil num))))", behind=behind), (
            "plus", ("field", 0, ("call", "sum", (0,), NIL)), ("field", 1, ("call", "sum", (1,), ("cons", 1, N, NIL)))))
        # A new field for each call of itself, open as long as that call.
        found = self.placed(SAMPLES["fresh"][0])
        self.assertEqual(found[1][3], (
            "if", N, ("plus", ("first", 0, ("name", "p")), ("field", 1, (
                "call", "go", (1,), ("minus", N, ONE), ("pair", 1, ("second", 0, ("name", "p")), N)))),
            ("second", 0, ("name", "p"))))

    def test_two_parts_that_are_alike(self):
        head = ("head", 0, NIL)
        found = placed([("main", [], ([], NUM, []), ("plus", ONE, ("times", head, head)))])
        self.assertEqual(found[0][3], ("plus", ONE, ("field", 0, ("times", head, head))))


class Looks(Case):
    def look(self, program):
        found = placed(program)
        self.assertIs(type(found), list)
        self.assertTrue(all_whole(found))
        self.assertEqual([function[:3] + (bare(function[3]),) for function in found], program)
        for (name, names, sign, body), function in zip(found, program):
            signed = sign_fields(sign)
            brackets = [part[1] for part in all_parts(body) if part[0] == "field"]
            stand = {field for part in all_parts(body) for field in own(part)}
            self.assertEqual(sorted(brackets), sorted(stand - signed))
            self.covered(body, signed)
            for part in all_parts(body):
                if part[0] == "field":
                    self.least(part)

    def covered(self, part, fields):
        """Each field that is touched is the sign's or has a bracket round it."""
        for field in own(part):
            self.assertIn(field, fields)
        inside = fields | {part[1]} if part[0] == "field" else fields
        for each in within(part):
            self.covered(each, inside)

    def least(self, part):
        """A bracket could not stand round a part within, and the greater number is within the lesser."""
        field, inside = part[1], part[2]
        before = field
        while inside[0] == "field":
            self.assertGreater(inside[1], before)
            before = inside[1]
            inside = inside[2]
        touching = [each for each in within(inside) if any(field in own(one) for one in all_parts(each))]
        self.assertTrue(field in own(inside) or len(touching) >= 2, part)

    def test_made_programs(self):
        brackets = 0
        for seed in range(700):
            with self.subTest(seed):
                program = fielded(program_made(seed))
                self.look(program)
                brackets += repr(placed(program)).count("'field', ")
        self.assertGreater(brackets, 1000)

    def test_samples(self):
        for text, rows in SAMPLES.values():
            self.look(fielded(read(text)))

    def test_beyond_the_bounds(self):
        body = NIL
        for field in range(40):
            body = ("cons", 39 - field, ("head", field, NIL), body) if field % 2 else ("let", "x", body, ("tail", field, NIL))
        self.look([("main", [], ([], ("list", 40, NUM), []), body)])


class Runs(unittest.TestCase):
    """Point 3, as far as fields and brackets go: what is run with fields comes to what is run without."""

    def compare(self, program, numbers, most):
        runner = Runner(placed(fielded(program)), most)
        found = outcome(lambda: runner.run(numbers))
        self.assertEqual(found, outcome(lambda: plain_run(program, numbers, most)), numbers)
        return found, runner.opened

    def test_samples(self):
        for name, (text, rows) in SAMPLES.items():
            for numbers in rows:
                with self.subTest(name, numbers=numbers):
                    for most in (3, 20, 200, 400):
                        self.compare(read(text), numbers, most)

    def test_made_programs(self):
        many = 0
        opened = 0
        for seed in range(700):
            program = program_made(seed)
            dice = random.Random(seed)
            takers = main_of(program)[1]
            for most in (5, 200):
                with self.subTest(seed, most=most):
                    found, fields = self.compare(program, [dice.randint(-2, 3) for taker in takers], most)
                    many += not isinstance(found, type)
                    opened += fields
        self.assertGreater(many, 300)
        self.assertGreater(opened, 300)


class Owned(unittest.TestCase):
    def test_what_was_told_is_spoilt(self):
        programs = [fielded(program_made(seed)) for seed in range(40)] + [fielded(read(text)) for text, rows in SAMPLES.values()]
        for program in programs:
            before = kept(program)
            found = placed(program)
            wanted = kept(found)
            spoilt(found)
            self.assertEqual(program, before)
            self.assertEqual(placed(program), wanted)

    def test_what_was_handed_in_is_changed_later(self):
        program = fielded(read(SAMPLES["sort"][0]))
        found = placed(program)
        wanted = kept(found)
        spoilt(program)
        self.assertEqual(found, wanted)
        self.assertEqual(placed(fielded(read(SAMPLES["sort"][0]))), wanted)

    def test_each_list_is_a_new_one(self):
        program = fielded(read("fun main (n num) num = n; fun f (n num) num = n"))
        lists = [program]
        for name, names, sign, body in program:
            lists += [names, sign[0], sign[2]]
        for found in (placed(program), placed(program)):
            lists.append(found)
            for name, names, sign, body in found:
                lists += [names, sign[0], sign[2]]
        self.assertEqual(len({id(each) for each in lists}), len(lists))


if __name__ == "__main__":
    unittest.main()
