"""Codes of placed programs: point 18."""

import random
import unittest

from fieldgate.brackets import placed
from fieldgate.coding import coded
from fieldgate.fielding import fielded
from fieldgate.machine import run
from fieldgate.plainly import plain_run
from fieldgate.reading import read
from making import SAMPLES, all_whole, kept, main_of, program_made, spoilt
from test_brackets import Runner, all_parts, outcome

NUM = ("num",)
N = ("name", "n")
ONE = ("number", 1)
NIL = ("nil",)
LENGTHS = {"number": 2, "local": 2, "pair": 2, "cons": 2, "jump": 2, "unless": 2, "call": 4}
PLAIN = ("keep", "drop", "plus", "minus", "times", "less", "first", "second", "head", "tail", "nil", "none", "open", "shut",
         "back")


def traced(code, numbers):
    """The fields of the frame at each cell laid, look and call of a run that is not refused."""
    rows, place, outer = code
    values, opened, seen = [], outer, []
    frames = [(list(numbers), list(range(outer)), None)]
    while frames:
        row = rows[place]
        place += 1
        known, fields, behind = frames[-1]
        word = row[0]
        if word == "number":
            values.append(row[1])
        elif word == "local":
            values.append(known[row[1]])
        elif word == "keep":
            known.append(values.pop())
        elif word == "drop":
            known.pop()
        elif word == "nil":
            values.append(None)
        elif word == "none":
            values.append(int(values.pop() is None))
        elif word in ("plus", "minus", "times", "less"):
            b, a = values.pop(), values.pop()
            values.append({"plus": a + b, "minus": a - b, "times": a * b, "less": int(a < b)}[word])
        elif word in ("pair", "cons"):
            b, a = values.pop(), values.pop()
            values.append((a, b))
            seen.append(("lay", list(fields)))
        elif word in ("first", "second", "head", "tail"):
            values.append(values.pop()[word in ("second", "tail")])
            seen.append(("look", list(fields)))
        elif word == "open":
            fields.append(opened)
            opened += 1
        elif word == "shut":
            fields.pop()
        elif word == "jump" or word == "unless" and values.pop() == 0:
            place = row[1]
        elif word == "call":
            values, given = values[:len(values) - row[2]], values[len(values) - row[2]:]
            frames.append((given, [fields[number] for number in row[3]], place))
            seen.append(("call", list(frames[-1][1])))
            place = row[1]
        elif word == "back":
            place = frames.pop()[2]
    return seen


class Case(unittest.TestCase):
    def coded(self, program):
        before = kept(program)
        code = coded(program)
        self.assertEqual(program, before)
        self.look(program, code)
        return code

    def look(self, program, code):
        """The form of a code, its outer fields and how many rows it has."""
        self.assertIs(type(code), tuple)
        rows, begin, outer = code
        self.assertIs(type(rows), list)
        self.assertTrue(all_whole(code))
        self.assertTrue(0 <= begin < len(rows))
        self.assertEqual(outer, len(main_of(program)[2][2]))
        for row in rows:
            self.assertIs(type(row), tuple)
            self.assertIn(row[0], list(LENGTHS) + list(PLAIN))
            self.assertEqual(len(row), LENGTHS.get(row[0], 1))
            if row[0] == "call":
                self.assertIs(type(row[3]), tuple)
            if row[0] in ("jump", "unless", "call"):
                self.assertTrue(0 <= row[1] < len(rows))
        parts = sum(len(all_parts(function[3])) for function in program)
        self.assertLessEqual(len(rows), 4 * parts + 4 * len(program))

    def compare(self, program, numbers, most):
        """A run of the code beside one of the placed program and one of the plain runner."""
        set_in = placed(fielded(program))
        code = self.coded(set_in)
        runner = Runner(set_in, most)
        found = outcome(lambda: run(code, numbers, most))
        wanted = outcome(lambda: plain_run(program, numbers, most))
        self.assertEqual(outcome(lambda: runner.run(numbers)), wanted)
        if isinstance(wanted, type):
            self.assertEqual(found, wanted)
        else:
            self.assertEqual(found, (wanted, runner.log))
            self.assertEqual(traced(code, numbers), runner.frames)
        return wanted

    def gives(self, program, numbers, value, log):
        with self.subTest(program, numbers=numbers):
            self.assertEqual(run(self.coded(program), numbers), (value, log))

    def main(self, body, value, log, gives=NUM, touched=(), numbers=(5,), behind=()):
        """Of a main with one taker, n."""
        self.gives([("main", ["n"], ([NUM], gives, list(touched)), body)] + list(behind), list(numbers), value, log)


class Forms(Case):
    def test_numbers_and_names(self):
        self.main(N, 5, [])
        self.main(("number", -10 ** 29), -10 ** 29, [])
        self.main(NIL, [], [], ("list", 0, NUM))
        four = ["a", "bc", "d", "e"]
        for place, name in enumerate(four):
            self.gives([("main", four, ([NUM] * 4, NUM, []), ("name", name))], [4, 3, 2, 1], 4 - place, [])

    def test_reckoning(self):
        for word, value in (("plus", 6), ("minus", 4), ("times", 5), ("less", 0)):
            self.main((word, N, ONE), value, [])
        self.main(("less", ONE, N), 1, [])
        self.main(("minus", ("minus", N, ONE), ("minus", ONE, N)), 8, [])
        self.main(("none", NIL), 1, [])

    def test_cells(self):
        one, two = ("list", 0, NUM), ("pair", 0, NUM, NUM)
        self.main(("pair", 0, N, ONE), (5, 1), [("open", 0), ("lay", 0), ("shut", 0)], two, [0])
        self.main(("cons", 0, N, NIL), [5], [("open", 0), ("lay", 0), ("shut", 0)], one, [0])
        log = [("open", 0), ("lay", 0), ("look", 0), ("shut", 0)]
        pair, cons = ("pair", 3, N, ONE), ("cons", 3, N, NIL)
        self.main(("field", 3, ("first", 3, pair)), 5, log)
        self.main(("field", 3, ("second", 3, pair)), 1, log)
        self.main(("field", 3, ("head", 3, cons)), 5, log)
        self.main(("field", 3, ("none", ("tail", 3, cons))), 1, log)
        self.main(("none", ("field", 3, cons)), 0, [("open", 0), ("lay", 0), ("shut", 0)])

    def test_the_order_of_parts(self):
        # Each part looks in a field of its own, which is opened with its bracket.
        looks = [("field", field, ("head", field, ("cons", field, ("number", field), NIL))) for field in range(4)]

        def log(*fields):
            return [(word, field) for field in fields for word in ("open", "lay", "look", "shut")]
        for word, value in (("plus", 1), ("minus", -1), ("times", 0), ("less", 1)):
            self.main((word, looks[0], looks[1]), value, log(0, 1))
        self.main(("if", looks[0], looks[1], looks[2]), 2, log(0, 1))
        self.main(("if", looks[3], looks[1], looks[2]), 1, log(0, 1))
        self.main(("let", "x", looks[0], ("plus", looks[1], ("name", "x"))), 1, log(0, 1))
        f = ("f", ["a", "b", "c", "d"], ([NUM] * 4, NUM, []), ("minus", ("name", "d"), looks[3]))
        self.main(("call", "f", (), looks[3], looks[2], looks[1], looks[0]), -3, log(0, 1, 2, 3, 4), behind=[f])
        self.main(("field", 4, ("first", 4, ("pair", 4, looks[2], looks[3]))), 2,
                  [("open", 0)] + log(1, 2) + [("lay", 0), ("look", 0), ("shut", 0)])
        self.main(("cons", 4, looks[2], ("cons", 4, looks[3], NIL)), [2, 3],
                  [("open", 0)] + log(1, 2) + [("lay", 0), ("lay", 0), ("shut", 0)], ("list", 4, NUM), [4])

    def test_let(self):
        x, y = ("name", "x"), ("name", "y")
        self.main(("let", "x", ("plus", N, ONE), ("minus", x, N)), 1, [])
        self.main(("let", "x", ONE, ("let", "y", ("number", 2), ("minus", ("plus", x, N), y))), 4, [])
        # A let hides a taker and lets around it, in its B alone.
        self.main(("let", "n", ("plus", N, ONE), ("times", N, N)), 36, [])
        self.main(("let", "n", ("let", "n", ("plus", N, ONE), ("plus", N, ONE)), N), 7, [])
        self.main(("minus", ("let", "n", ONE, N), N), -4, [])
        self.main(("let", "x", ONE, ("plus", ("let", "x", ("number", 7), x), ("times", ("number", 10), x))), 17, [])
        self.main(("plus", ("let", "x", ONE, x), ("let", "y", ("number", 7), ("times", y, N))), 36, [])

    def test_if(self):
        for n in (-2, 0, 1, 10 ** 40):
            self.main(("if", N, ("number", 7), ("number", 8)), 7 if n else 8, [], numbers=[n])
            self.main(("minus", ("number", 100), ("if", N, ("if", ONE, N, ONE), ("if", N, ONE, ("number", 9)))),
                      100 - (n or 9), [], numbers=[n])
        # What isn't worked out isn't in the log.
        cell = ("none", ("field", 2, ("cons", 2, N, NIL)))
        self.main(("if", N, cell, ONE), 0, [("open", 0), ("lay", 0), ("shut", 0)])
        self.main(("if", N, cell, ONE), 1, [], numbers=[0])
        # A let in a branch leaves no local behind.
        self.main(("let", "x", ("if", N, ("let", "y", ONE, ("name", "y")), ONE), ("let", "z", N, ("name", "z"))), 5, [])

    def test_brackets(self):
        cell = ("cons", 5, N, NIL)
        self.main(("none", ("field", 4, ("field", 5, ("field", 6, cell)))), 0,
                  [("open", 0), ("open", 1), ("open", 2), ("lay", 1), ("shut", 2), ("shut", 1), ("shut", 0)])
        self.main(("plus", ("field", 7, ("number", 7)), ("field", 6, ("none", ("field", 5, cell)))), 7,
                  [("open", 0), ("shut", 0), ("open", 1), ("open", 2), ("lay", 2), ("shut", 2), ("shut", 1)])

    def test_calls(self):
        f = ("f", ["a", "b"], ([NUM, NUM], NUM, []), ("minus", ("name", "a"), ("name", "b")))
        self.main(("call", "f", (), N, ONE), 4, [], behind=[f])
        self.main(("call", "f", (), ("call", "f", (), ONE, N), ("call", "f", (), N, ("number", 3))), -6, [], behind=[f])
        g = ("g", [], ([], NUM, []), ("number", 4))
        self.main(("plus", ("call", "g", ()), N), 9, [], behind=[f, g])
        self.gives([f, g, ("main", [], ([], NUM, []), ("call", "f", (), ("call", "g", ()), ONE))], [], 3, [])
        # A name of the caller's is none of the function's own.
        h = ("h", ["n"], ([NUM], NUM, []), ("let", "x", ("number", 2), ("times", N, ("name", "x"))))
        self.main(("let", "x", ("number", 10), ("plus", ("call", "h", (), ("name", "x")), ("plus", ("name", "x"), N))), 35, [],
                  behind=[h])

    def test_a_calls_fields(self):
        # f touches its fields 1 and 3; at the call these are main's 6 and 4.
        kinds = [("list", 0, NUM), ("list", 1, NUM), ("list", 2, NUM), ("list", 3, NUM)]
        body = ("plus", ("head", 3, ("name", "d")), ("field", 4, ("head", 4, ("cons", 4, ("head", 1, ("name", "b")), NIL))))
        f = ("f", ["a", "b", "c", "d"], (kinds, NUM, [1, 3]), body)
        main = ("field", 4, ("field", 5, ("field", 6, (
            "call", "f", (6, 4), NIL, ("cons", 6, N, NIL), ("cons", 5, ONE, NIL), ("cons", 4, ("number", 7), NIL)))))
        self.main(main, 12, [("open", 0), ("open", 1), ("open", 2), ("lay", 2), ("lay", 1), ("lay", 0), ("look", 0), ("open", 3),
                             ("look", 2), ("lay", 3), ("look", 3), ("shut", 3), ("shut", 2), ("shut", 1), ("shut", 0)], behind=[f])

    def test_outer(self):
        for text, outer in (("fun main () num = 1", 0), ("fun main () list num = (nil num)", 0),
                            ("fun main () list num = (cons 1 (nil num))", 1),
                            ("fun main () list list num = (cons (nil num) (nil list num))", 1),
                            ("fun main () pair list num list num = (pair (cons 1 (nil num)) (cons 2 (nil num)))", 3),
                            ("fun main () num = (head (cons 1 (nil num)))", 0),
                            ("fun f () num = 1; fun main () list num = (call g); fun g () list num = (cons 1 (nil num))", 1)):
            self.assertEqual(self.coded(placed(fielded(read(text))))[2], outer)

    def test_main_that_calls_itself(self):
        text = "fun main (n num) list num = (if n (cons n (call main (minus n 1))) (nil num))"
        self.assertEqual(run(self.coded(placed(fielded(read(text)))), [3]),
                         ([3, 2, 1], [("open", 0)] + [("lay", 0)] * 3 + [("shut", 0)]))


class Runs(Case):
    def test_samples(self):
        for name, (text, rows) in SAMPLES.items():
            for numbers in rows:
                with self.subTest(name, numbers=numbers):
                    for most in (0, 3, 20, 200, 400):
                        self.compare(read(text), numbers, most)

    def test_made_programs(self):
        many = 0
        for seed in range(400):
            dice = random.Random(seed)
            for program in (program_made(seed), program_made(seed, least=10)):
                numbers = [dice.randint(-2, 3) for taker in main_of(program)[1]]
                for most in (2, 200):
                    with self.subTest(seed, most=most):
                        many += not isinstance(self.compare(program, numbers, most), type)
        self.assertGreater(many, 800)


class Wide(Case):
    def test_many_brackets_round_one_part(self):
        body = ("head", 299, ("cons", 299, N, NIL))
        for field in reversed(range(300)):
            body = ("field", field, body)
        log = [("open", field) for field in range(300)] + [("lay", 299), ("look", 299)]
        self.main(body, 5, log + [("shut", field) for field in reversed(range(300))])

    def test_about_as_many_brackets_as_texts_let(self):
        # Twelve lists with six fields each, in six pairs, and all are touched in both halves of one part.
        kind = "list list list list list num"
        takers = ", ".join(f"{name} list {kind}" for name in "abcd")
        looks = "(plus (plus {} {}) (plus {} {}))".format(*[f"{'(head ' * 6}{name}{')' * 6}" for name in "abcd"])
        lets = "".join(f"(let {name} (pair (nil {kind}) (nil {kind})) " for name in "abcdef")
        calls = ["(call f (first {0}) (second {0}) (first {1}) (second {1}))".format(*names) for names in ("ab", "cd", "ef")]
        choice = "(if {} {} {})".format(*calls)
        program = read(f"""fun main () num = {lets}(plus {choice} {choice}){')' * 6};
            fun f ({takers}) num = (if (none a) 3 {looks})""")
        set_in = placed(fielded(program))
        brackets = [part for part in all_parts(set_in[0][3]) if part[0] == "field"]
        self.assertEqual(len(brackets), 78)
        self.assertEqual(self.compare(program, [], 200), 6)
        self.assertEqual(len([entry for entry in run(coded(set_in), [])[1] if entry[0] == "open"]), 78)

    def test_deep_parts(self):
        body = N
        for turn in range(60):
            body = ("plus", body, ("let", "x", ONE, ("name", "x")))
        self.main(body, 65, [])


class Owned(Case):
    def test_what_was_told_is_spoilt(self):
        programs = [placed(fielded(program_made(seed))) for seed in range(40)]
        programs += [placed(fielded(read(text))) for text, rows in SAMPLES.values()]
        for program in programs:
            wanted = kept(self.coded(program))
            spoilt(coded(program))
            self.assertEqual(self.coded(program), wanted)

    def test_what_was_handed_in_is_changed_later(self):
        program = placed(fielded(read(SAMPLES["sort"][0])))
        found = coded(program)
        wanted = kept(found)
        spoilt(program)
        self.assertEqual(found, wanted)
        self.assertEqual(coded(placed(fielded(read(SAMPLES["sort"][0])))), wanted)


if __name__ == "__main__":
    unittest.main()
