"""How much lies at once: points 19 and 20."""

import collections
import random
import unittest

from fieldgate.bounds import bound
from fieldgate.brackets import placed
from fieldgate.coding import coded
from fieldgate.fielding import fielded
from fieldgate.machine import run
from fieldgate.reading import read
from making import SAMPLES, all_words, kept, main_of, program_made
from test_brackets import Runner, all_parts, outcome, within

NUM = ("num",)
N = ("name", "n")
ONE = ("number", 1)
NIL = ("nil",)


def cells(field, many):
    """A list of so many cells in one field."""
    return ("cons", field, ONE, cells(field, many - 1)) if many else NIL


def lies(log):
    """How many cells, and how many fields, lie at once at most in a log."""
    lying, most_cells, most_fields = {}, 0, 0
    for word, field in log:
        if word == "open":
            lying[field] = 0
        if word == "lay":
            lying[field] += 1
        if word == "shut":
            del lying[field]
        most_cells = max(most_cells, sum(lying.values()))
        most_fields = max(most_fields, len(lying))
    return most_cells, most_fields


class Measured:
    """Point 19, word by word, with F's body worked out anew at each call."""

    def __init__(self, program):
        self.functions = {function[0]: function for function in program}

    def merged(self, parts):
        left, peak, deep = collections.Counter(), 0, 0
        for its_left, its_peak, its_deep in parts:
            peak = max(peak, left.total() + its_peak)
            left = left + its_left
            deep = max(deep, its_deep)
        return left, max(peak, left.total()), deep

    def measure(self, part):
        word = part[0]
        if word == "field":
            left, peak, deep = self.measure(part[2])
            return collections.Counter({field: many for field, many in left.items() if field != part[1]}), peak, deep + 1
        parts = [self.measure(each) for each in within(part)]
        if word == "if":
            (b, b_peak, b_deep), (c, c_peak, c_deep) = parts[1:]
            parts = [parts[0], (b | c, max(b_peak, c_peak), max(b_deep, c_deep))]
        if word == "call":
            name, names, sign, body = self.functions[part[1]]
            left, peak, deep = self.measure(body)
            taken = collections.Counter()
            for field, its in zip(sign[2], part[2], strict=True):
                taken[its] += left.pop(field, 0)
            assert not left
            parts.append((taken, peak, deep))
        left, peak, deep = self.merged(parts)
        if word in ("pair", "cons"):
            left[part[1]] += 1
            peak = max(peak, left.total())
        return left, peak, deep

    def bound(self):
        name, names, sign, body = self.functions["main"]
        left, peak, deep = self.measure(body)
        return peak, deep + len(sign[2])


def rings(program):
    """Whether some function calls itself, by whatever many others."""
    calls = {name: {part[1] for part in all_parts(body) if part[0] == "call"} for name, names, sign, body in program}
    for turn in program:
        calls = {name: called.union(*[calls[other] for other in called]) for name, called in calls.items()}
    return any(name in called for name, called in calls.items())


class Case(unittest.TestCase):
    def bound(self, program):
        before = kept(program)
        found = bound(program)
        self.assertEqual(program, before)
        if found is not None:
            self.assertIs(type(found), tuple)
            self.assertEqual([type(number) for number in found], [int, int])
        return found

    def gives(self, program, wanted):
        with self.subTest(program):
            self.assertEqual(self.bound(program), wanted)

    def main(self, body, *wanted, touched=(), behind=()):
        """Of a main whose value is of no matter, the touched fields being the outer ones."""
        self.gives([("main", ["n"], ([NUM], NUM, list(touched)), body)] + list(behind), wanted)

    def text(self, text, wanted):
        self.gives(placed(fielded(read(text))), wanted)


class Forms(Case):
    def test_nothing(self):
        for part in (N, ONE, NIL, ("plus", N, ONE), ("none", NIL), ("let", "x", N, N), ("if", N, N, N)):
            self.main(part, 0, 0)
            self.main(part, 0, 3, touched=[0, 1, 2])

    def test_a_look_is_no_cell(self):
        for word in ("head", "tail", "first", "second"):
            self.main((word, 0, N), 0, 1, touched=[0])
            self.main(("field", 0, (word, 0, N)), 0, 1)
            self.main((word, 0, cells(0, 3)), 3, 1, touched=[0])

    def test_pairs_and_lists(self):
        self.main(("pair", 0, N, N), 1, 1, touched=[0])
        self.main(("pair", 0, ("pair", 0, N, N), ("pair", 1, N, N)), 3, 2, touched=[0, 1])
        for many in range(6):
            self.main(cells(0, many), many, 1, touched=[0])
            self.main(("cons", 0, cells(1, many), cells(0, 2)), many + 3, 2, touched=[0, 1])

    def test_a_bracket(self):
        self.main(("field", 0, ("none", cells(0, 4))), 4, 1)
        self.main(("none", ("field", 0, cells(0, 4))), 4, 1)
        self.main(("field", 0, ("field", 1, ("none", ("cons", 0, ("none", cells(1, 2)), NIL)))), 3, 2)

    def test_what_the_ones_ahead_leave(self):
        four, two = ("none", cells(0, 4)), ("none", cells(1, 2))
        shut_four, shut_two = ("field", 0, four), ("field", 1, two)
        for word in ("plus", "minus", "times", "less"):
            self.main((word, four, two), 6, 2, touched=[0, 1])
            self.main((word, shut_four, shut_two), 4, 1)
            self.main((word, shut_two, shut_four), 4, 1)
            self.main((word, four, shut_two), 6, 2, touched=[0])
            # What lies behind does not count for what is ahead and gone by then.
            self.main((word, shut_two, four), 4, 2, touched=[0])
            self.main((word, shut_four, two), 4, 2, touched=[1])
        self.main(("let", "x", four, two), 6, 2, touched=[0, 1])
        self.main(("let", "x", shut_four, two), 4, 2, touched=[1])
        self.main(("let", "x", two, shut_four), 6, 2, touched=[1])

    def test_the_own_cell_of_a_pair_comes_last(self):
        gone = ("none", ("field", 1, cells(1, 3)))
        self.main(("pair", 0, gone, gone), 3, 2, touched=[0])
        self.main(("pair", 0, N, gone), 3, 2, touched=[0])
        self.main(("pair", 0, ("pair", 0, N, N), gone), 4, 2, touched=[0])
        self.main(("pair", 0, gone, ("pair", 0, ("pair", 0, N, N), N)), 3, 2, touched=[0])
        self.main(("pair", 0, gone, ("pair", 0, ("pair", 0, N, N), ("pair", 0, N, N))), 4, 2, touched=[0])
        self.main(("cons", 0, gone, cells(0, 1)), 3, 2, touched=[0])

    def test_brackets_within_brackets(self):
        gone = ("none", ("field", 1, cells(1, 3)))
        self.main(("field", 0, ("plus", ("none", cells(0, 2)), gone)), 5, 2)
        self.main(("plus", ("field", 0, ("plus", ("none", cells(0, 2)), gone)), ("none", cells(2, 4))), 5, 3, touched=[2])
        self.main(("plus", ("none", cells(2, 4)), ("field", 0, ("plus", ("none", cells(0, 2)), gone))), 9, 3, touched=[2])
        self.main(("plus", ("field", 0, N), ("field", 0, ("field", 1, N))), 0, 2)

    def test_if(self):
        zero, four, two = ("none", cells(0, 1)), ("none", cells(1, 4)), ("none", cells(2, 2))
        # Four in one field and two in another, though in no run both.
        self.main(("if", zero, four, two), 7, 3, touched=[0, 1, 2])
        self.main(("if", zero, two, four), 7, 3, touched=[0, 1, 2])
        self.main(("if", zero, four, ("none", cells(1, 2))), 5, 2, touched=[0, 1])
        self.main(("if", zero, ("none", cells(1, 2)), four), 5, 2, touched=[0, 1])
        self.main(("if", ("field", 0, zero), ("field", 1, four), ("field", 2, two)), 4, 1)
        self.main(("if", ("field", 0, zero), ("field", 2, two), ("field", 1, four)), 4, 1)
        self.main(("if", zero, ("field", 1, four), ("field", 2, two)), 5, 2, touched=[0])
        self.main(("if", ("field", 1, four), zero, N), 4, 2, touched=[0])
        # Deep is the greatest of all three.
        deep = ("field", 1, ("field", 2, ("field", 3, N)))
        for parts in ((deep, N, N), (N, deep, N), (N, N, deep)):
            self.main(("if",) + parts, 0, 3)

    def test_an_if_with_other_parts(self):
        choice = ("if", N, ("none", cells(0, 3)), ("none", cells(1, 2)))
        self.main(("plus", choice, choice), 10, 2, touched=[0, 1])
        self.main(("field", 0, ("plus", choice, ("none", cells(1, 1)))), 6, 2, touched=[1])
        self.main(("plus", ("field", 0, choice), ("none", cells(1, 4))), 6, 2, touched=[1])
        self.main(("plus", ("field", 0, ("field", 1, choice)), ("none", cells(2, 4))), 5, 3, touched=[2])
        self.main(("plus", ("field", 0, ("field", 1, choice)), ("none", cells(2, 7))), 7, 3, touched=[2])

    def test_call(self):
        f = ("f", ["a"], ([NUM], ("list", 0, NUM), [0]), ("cons", 0, ("none", ("field", 1, cells(1, 4))), cells(0, 2)))
        self.main(("call", "f", (0,), N), 4, 2, touched=[0], behind=[f])
        self.main(("call", "f", (5,), cells(3, 2)), 6, 3, touched=[3, 5], behind=[f])
        self.main(("call", "f", (5,), ("none", ("field", 3, cells(3, 7)))), 7, 2, touched=[5], behind=[f])
        self.main(("plus", ("call", "f", (0,), N), ("call", "f", (0,), N)), 7, 2, touched=[0], behind=[f])
        self.main(("plus", ("call", "f", (0,), N), ("call", "f", (1,), N)), 7, 3, touched=[0, 1], behind=[f])
        self.main(("plus", ("field", 0, ("call", "f", (0,), N)), ("call", "f", (1,), N)), 4, 3, touched=[1], behind=[f])
        self.main(("call", "f", (0,), ("call", "f", (0,), N)), 7, 2, touched=[0], behind=[f])

    def test_fields_of_a_call(self):
        # f leaves one cell in its field 1 and two in its field 3; it does not touch 0 and 2.
        kinds = [("list", field, NUM) for field in range(4)]
        f = ("f", ["a", "b", "c", "d"], (kinds, NUM, [1, 3]), ("plus", ("none", cells(1, 1)), ("none", cells(3, 2))))

        def call(*fields):
            return ("call", "f", fields, N, N, N, N)

        def behind(part):
            return ("plus", part, ("none", cells(9, 5)))
        self.main(behind(("field", 0, call(0, 1))), 7, 3, touched=[1, 9], behind=[f])
        self.main(behind(("field", 1, call(0, 1))), 6, 3, touched=[0, 9], behind=[f])
        self.main(behind(("field", 0, call(1, 0))), 6, 3, touched=[1, 9], behind=[f])
        # One of the caller's for both.
        self.main(behind(("field", 0, call(0, 0))), 5, 2, touched=[9], behind=[f])
        self.main(behind(call(0, 0)), 8, 2, touched=[0, 9], behind=[f])
        self.main(("if", N, call(0, 0), ("none", cells(0, 2))), 3, 1, touched=[0], behind=[f])
        self.main(("if", N, call(0, 1), ("none", cells(0, 2))), 4, 2, touched=[0, 1], behind=[f])

    def test_calls_through_others(self):
        one = ("one", [], ([], ("list", 0, NUM), [0]), cells(0, 1))
        two = ("two", [], ([], NUM, [0]), ("plus", ("call", "one", (0,)), ("call", "one", (0,))))
        four = ("four", [], ([], NUM, [0]), ("plus", ("call", "two", (0,)), ("call", "two", (0,))))
        self.main(("call", "four", (0,)), 4, 1, touched=[0], behind=[one, two, four])
        self.main(("call", "four", (0,)), 4, 1, touched=[0], behind=[four, two, one])
        self.main(("field", 7, ("plus", ("call", "two", (7,)), ("call", "four", (7,)))), 6, 1, behind=[two, four, one])


class Texts(Case):
    def test_texts(self):
        for text, wanted in (
                ("fun main (n num) num = n", (0, 0)),
                ("fun main (n num) num = (first (pair n n))", (1, 1)),
                ("fun main (n num) pair num num = (pair n n)", (1, 1)),
                ("fun main (n num) list num = (nil num)", (0, 0)),
                ("fun main (n num) list num = (cons n (cons n (nil num)))", (2, 1)),
                ("fun main (n num) num = (plus (first (pair n n)) (second (pair n n)))", (1, 1)),
                ("fun main (n num) num = (let p (pair n n) (plus (first p) (second (pair n n))))", (2, 2)),
                ("fun main (n num) num = (if n (first (pair n n)) (head (nil num)))", (1, 1)),
                ("fun main (n num) num = (call f (cons n (nil num))); fun f (l list num) num = (first (pair (head l) 1))", (2, 2)),
                ("fun main (n num) num = (plus (call f n) (call f n)); fun f (n num) num = (first (pair n n))", (1, 1)),
                ("fun main (n num) list num = (call f (call f (nil num))); fun f (l list num) list num = (cons 1 l)", (2, 1))):
            self.text(text, wanted)

    def test_numbers_that_grow(self):
        # Nothing is as slow as the runs would be: each function calls the next one nine times.
        nine = "(plus (plus (plus C C) (plus C C)) (plus (plus C C) (plus C (plus C C))))"
        names = ["main", "a", "b", "c", "d", "e"]
        text = ";".join(f"fun {name} () num = {nine.replace('C', f'(call {called})')}" for name, called in zip(names, names[1:]))
        self.text(text + ";fun e () num = (first (pair 1 1))", (1, 1))
        one = "fun e (l list num) list num = (cons 1 l)"
        turned = [f"fun {name} (l list num) list num = {f'(call {called} ' * 9}l{')' * 9}"
                  for name, called in zip(names[1:], names[2:])]
        self.text(f"fun main () list num = {'(call a ' * 9}(nil num){')' * 9};" + ";".join(turned) + ";" + one, (9 ** 5, 1))

    def test_many_brackets_round_one_part(self):
        body = cells(299, 2)
        for field in reversed(range(300)):
            body = ("field", field, body)
        self.main(("none", body), 2, 300)


class Rings(Case):
    def test_a_function_that_calls_itself(self):
        self.text("fun main (n num) num = (if n (call main 0) 1)", None)
        self.text("fun main (n num) num = (call f n); fun f (n num) num = (if n (call f 0) 1)", None)
        # Not called from main, and in a part that no run comes to.
        self.text("fun main (n num) num = n; fun f (n num) num = (call f n)", None)
        self.text("fun f (n num) num = (if 0 (plus 1 (call f n)) n); fun main (n num) num = n", None)

    def test_by_others(self):
        names = ["a", "b", "c", "d", "e"]
        for many in range(2, 6):
            ring = [f"fun {name} (n num) num = (plus n (call {called} n))"
                    for name, called in zip(names[:many], names[1:many] + names[:1])]
            for first in ("n", "(call a n)", f"(call {names[many - 1]} n)"):
                for functions in ([f"fun main (n num) num = {first}"] + ring, ring + [f"fun main (n num) num = {first}"]):
                    self.text(";".join(functions), None)
        through = ";".join(f"fun {name} (n num) num = (call {called} n)" for name, called in zip(names, names[1:] + ["main"]))
        self.text("fun main (n num) num = (call a n);" + through, None)

    def test_calls_in_every_place(self):
        call = "(call f l)"
        for body in (f"(plus {call} 1)", f"(plus 1 {call})", f"(minus 1 {call})", f"(times 1 {call})", f"(less {call} 1)",
                     f"(if {call} 1 1)", f"(if 1 {call} 1)", f"(if 1 1 {call})", f"(let x {call} 1)", f"(let x 1 {call})",
                     f"(first (pair {call} 1))", f"(second (pair 1 {call}))", f"(head (cons {call} l))", f"(call g {call})",
                     f"(none (cons {call} l))", f"(none (tail (cons 1 (cons {call} l))))"):
            self.text(f"fun main () num = 1; fun f (l list num) num = {body}; fun g (n num) num = n", None)
            self.text(f"fun main () num = (call f (nil num)); fun g (n num) num = n; fun f (l list num) num = {body}", None)

    def test_no_ring(self):
        # Each calls all behind it.
        self.text("""fun main (n num) num = (plus (call a n) (plus (call b n) (call c n)));
            fun a (n num) num = (plus (call b n) (call c n)); fun b (n num) num = (call c (call c n));
            fun c (n num) num = (first (pair n n))""", (1, 1))
        # Names of functions as names of values.
        self.text("fun main (main num) num = (call f main); fun f (f num) num = (let f f f)", (0, 0))

    def test_samples(self):
        for text, rows in SAMPLES.values():
            self.text(text, None)

    def test_made_programs(self):
        some = 0
        for seed in range(600):
            program = placed(fielded(program_made(seed)))
            found = self.bound(program)
            with self.subTest(seed):
                self.assertEqual(found is None, rings(program))
                if found is not None:
                    self.assertEqual(found, Measured(program).bound())
            some += found is None
        self.assertTrue(100 < some < 500, some)


class Runs(Case):
    """No run has more lying at once than the bound, and without an if each one comes to it."""

    def test_with_ifs(self):
        less = refused = 0
        for seed in range(500):
            program = placed(fielded(program_made(seed, rings=False, least=10)))
            found = self.bound(program)
            dice = random.Random(seed)
            for turn in range(3):
                # The test's own runner has a log where the run is refused, too.
                runner = Runner(program, 200)
                told = outcome(lambda: runner.run([dice.randint(-2, 3) for taker in main_of(program)[1]]))
                most = lies(runner.log)
                with self.subTest(seed):
                    self.assertEqual(found, Measured(program).bound())
                    self.assertLessEqual(most[0], found[0])
                    self.assertLessEqual(most[1], found[1])
                less += most != found
                refused += isinstance(told, type)
        self.assertGreater(less, 100)
        self.assertGreater(refused, 100)

    def test_without_ifs(self):
        many = 0
        for seed in range(500):
            made = program_made(seed, rings=False, ifs=False, least=8)
            self.assertNotIn("if", all_words(made))
            program = placed(fielded(made))
            dice = random.Random(seed)
            numbers = [dice.randint(-2, 3) for taker in main_of(program)[1]]
            found = outcome(lambda: run(coded(program), numbers))
            with self.subTest(seed):
                self.assertEqual(self.bound(program), Measured(program).bound())
                if not isinstance(found, type):
                    many += 1
                    self.assertEqual(lies(found[1]), self.bound(program))
        self.assertGreater(many, 300)


if __name__ == "__main__":
    unittest.main()
