"""The desk: point 21."""

import random
import unittest

from fieldgate.bounds import bound
from fieldgate.brackets import placed
from fieldgate.desk import Desk
from fieldgate.errors import Empty, GateError, NoKind, NoName, NoProgram, NoRow, NoText, TooDeep, TooGreat, TooLong, Twice
from fieldgate.fielding import fielded, signs
from fieldgate.plainly import plain_run
from fieldgate.reading import read
from making import SAMPLES, any_gap, main_of, program_made, text_of

BIG = "9" * 30
SUM = SAMPLES["sum"][0]
BOTH = "fun main (n num, m num) list num = (cons n (cons m (nil num)))"
# Rows of no form, whatever is loaded.
STRANGE = [
    "", " ", "\n", "load", "Load fun main () num = 1", " load fun main () num = 1", "load\nfun main () num = 1", "loaded",
    "loadfun main () num = 1", "lay1", "run5", "runs", "Run", "RUN", " run", "run ", "run\n", "run  5", "run 5 ", "run 5  6",
    "run\t5", "run\n5", "run 5\n", "run 5\n6", "run 5,6", "run +5", "run 05", "run 00", "run -0", "run -05", "run --5", "run -",
    "run 5-", "run 5.0", "run 5e3", "run 0x5", "run 1_0", "run x", "run main", "run 5 x", "run \u0665", "run \u00b2",
    "run 1" + "0" * 30, "run -1" + "0" * 30, "run 5 1" + "0" * 30, "lay ", " lay", "lay  5", "lay 5 ", "lay 05", "lay -0", "lay x",
    "lay\n5", "lay 1" + "0" * 30, "Lay 5", "lays", "bound ", " bound", "bound 5", "bound main", "bounds", "Bound", "bound\n",
    "sign", "sign ", "sign  main", " sign main", "sign main ", "sign main\n", "sign\nmain", "sign main main", "sign Main",
    "sign 5", "sign -5", "sign ninechars", "sign m1", "sign m-n", "sign \u00e4", "signs main", "Sign main", "sign(main)",
    "sign if", "sign fun", "sign num", "sign list", "sign pair", "sign plus", "sign minus", "sign times", "sign less",
    "sign first", "sign second", "sign nil", "sign cons", "sign head", "sign tail", "sign none", "sign let", "sign call",
    "help", "fun main () num = 1", "5", "main", "/", "none", "exit", "run;lay", "run lay", "lay run 5",
]
NO_TEXTS = [None, 5, 0, True, b"bound", ["bound"], ("run", 5), {}, ["load fun main () num = 1"]]


def loaded(text):
    desk = Desk()
    assert desk.say("load " + text) == "loaded"
    return desk


def written(value):
    """A value as the desk writes it, by Python's own way of writing one."""
    return repr(value).replace(" ", "").replace("(", "<").replace(")", ">")


class Case(unittest.TestCase):
    def says(self, desk, row, answer):
        with self.subTest(row):
            found = desk.say(row)
            self.assertIs(type(found), str)
            self.assertEqual(found, answer)

    def refuses(self, desk, row, error):
        with self.subTest(row):
            with self.assertRaises(error) as caught:
                desk.say(row)
            self.assertIs(type(caught.exception), error)


class Load(Case):
    def test_loaded(self):
        for text, rows in SAMPLES.values():
            self.says(Desk(), "load " + text, "loaded")

    def test_the_text_is_all_behind_the_blank(self):
        desk = Desk()
        for text in ("fun main () num = 1", " fun main () num = 2", "\n\n fun main()num=3 \n", "fun\nmain\n(\n)\nnum\n=\n4\n"):
            self.says(desk, "load " + text, "loaded")
        self.says(desk, "run", "4")
        self.says(desk, "load   fun main () num = 5", "loaded")
        self.says(desk, "run", "5")

    def test_refused_as_read_does(self):
        for text, error in (
                ("", NoText), (" ", NoText), ("load fun main () num = 1", NoText), ("run", NoText), ("fun main () num = 1;", NoText),
                ("fun main () num = \u0665", NoText), ("fun main () num = 1" + " " * 4000, NoText),
                ("fun main () num = 1; fun main () num = 1", Twice), ("fun main (a num, a num) num = 1", Twice),
                ("fun f () num = 1", NoName), ("fun main () num = x", NoName), ("fun main () num = (call f)", NoName),
                ("fun main () num = (nil num)", NoKind), ("fun main (l list num) num = 1", NoKind)):
            desk = Desk()
            self.refuses(desk, "load " + text, error)
            self.refuses(desk, "bound", NoProgram)

    def test_four_thousand_signs_of_text(self):
        text = "fun main () num = 1".ljust(4000)
        self.says(Desk(), "load " + text, "loaded")
        self.refuses(Desk(), "load " + text + " ", NoText)

    def test_the_last_one_counts(self):
        desk = loaded("fun main () num = 1")
        self.says(desk, "run", "1")
        self.says(desk, "load fun main (n num) num = (plus n 1)", "loaded")
        self.says(desk, "run 5", "6")
        self.refuses(desk, "run", NoName)
        self.says(desk, "sign main", "num num /")

    def test_a_refused_one_keeps_the_one_before(self):
        desk = loaded(BOTH)
        for text in ("", "fun main () num =", "fun f () num = 1", "fun main () num = (nil num)", "fun main () num = 1; fun main () num = 1"):
            with self.assertRaises(GateError):
                desk.say("load " + text)
            self.says(desk, "run 5 6", "[5,6]")
            self.says(desk, "lay 5 6", "2 1")
            self.says(desk, "bound", "2 1")
            self.says(desk, "sign main", "num num list 0:num / 0")


class Run(Case):
    def test_numbers(self):
        desk = loaded("fun main (n num) num = n")
        for number in ("0", "1", "-1", "10", "-10", "105", BIG, "-" + BIG, "1" + "0" * 29):
            self.says(desk, f"run {number}", number)

    def test_no_takers_and_four(self):
        self.says(loaded("fun main () num = 5"), "run", "5")
        desk = loaded("fun main (a num, b num, c num, d num) list num = (cons a (cons b (cons c (cons d (nil num)))))")
        self.says(desk, "run 1 -2 30 0", "[1,-2,30,0]")
        self.says(desk, "run 0 0 0 0", "[0,0,0,0]")

    def test_numbers_of_any_size_are_told(self):
        desk = loaded("fun main (n num, m num) num = (times n m)")
        self.says(desk, f"run {BIG} {BIG}", str(int(BIG) ** 2))
        self.says(desk, f"run {BIG} -{BIG}", str(-int(BIG) ** 2))
        self.assertEqual(len(desk.say(f"run {BIG} {BIG}")), 60)

    def test_values(self):
        for kind, body, answer in (
                ("num", "-7", "-7"), ("pair num num", "(pair 1 -2)", "<1,-2>"), ("list num", "(nil num)", "[]"),
                ("list num", "(cons 1 (nil num))", "[1]"), ("list num", "(cons 1 (cons 2 (cons -3 (nil num))))", "[1,2,-3]"),
                ("pair pair num num num", "(pair (pair 1 2) 3)", "<<1,2>,3>"),
                ("pair num pair num num", "(pair 1 (pair 2 3))", "<1,<2,3>>"),
                ("list list num", "(cons (nil num) (cons (cons 1 (nil num)) (nil list num)))", "[[],[1]]"),
                ("list pair num num", "(cons (pair 1 2) (cons (pair 3 4) (nil pair num num)))", "[<1,2>,<3,4>]"),
                ("pair list num list num", "(pair (nil num) (cons 1 (cons 2 (nil num))))", "<[],[1,2]>"),
                ("pair num list pair num list num", "(pair 1 (cons (pair 2 (cons 3 (nil num))) (nil pair num list num)))", "<1,[<2,[3]>]>"),
                ("list list list num", "(cons (cons (nil num) (nil list num)) (nil list list num))", "[[[]]]")):
            self.says(loaded(f"fun main () {kind} = {body}"), "run", answer)

    def test_a_long_list(self):
        behind = "; fun f (n num, l list num) list num = (cons n (cons n (cons n (cons n (cons n (cons n l))))))"
        desk = loaded("fun main (n num) list num = (call f n (call f n (call f n (call f n (nil num)))))" + behind)
        self.says(desk, "run 12", "[" + ",".join(["12"] * 24) + "]")

    def test_samples(self):
        for text, rows in SAMPLES.values():
            desk, program = loaded(text), read(text)
            for numbers in rows:
                row = "".join(f" {number}" for number in numbers)
                try:
                    value = plain_run(program, numbers)
                except GateError as error:
                    self.refuses(desk, "run" + row, type(error))
                    self.refuses(desk, "lay" + row, type(error))
                else:
                    self.says(desk, "run" + row, written(value))

    def test_refused_as_the_run_is(self):
        chain = "; fun f (n num) num = (if n (call f (minus n 1)) 0)"
        for text, good, bad, error in (
                ("fun main (n num) num = (if n (head (nil num)) 3)", "0", "1", Empty),
                (f"fun main (n num) num = (times (times n {BIG}) {BIG})", "0", "10", TooGreat),
                ("fun main (n num) num = (call f n)" + chain, "11", "12", TooDeep)):
            desk = loaded(text)
            for word in ("run ", "lay "):
                self.assertIs(type(desk.say(word + good)), str)
                self.refuses(desk, word + bad, error)
                self.assertIs(type(desk.say(word + good)), str)

    def test_the_most_is_two_hundred(self):
        # fan begins 127, 63, 7, 3 and 1 calls, its own among them.
        desk = loaded("""fun main (n num) num = (plus (call fan 6) (plus (call fan 5) (plus (call fan 2) (plus (call fan 1)
                (if n (call fan 0) 7)))));
            fun fan (d num) num = (if d (plus (call fan (minus d 1)) (call fan (minus d 1))) 0)""")
        for word, answer in (("run", "7"), ("lay", "0 0")):
            self.says(desk, f"{word} 0", answer)
            self.refuses(desk, f"{word} 1", TooLong)


class Lay(Case):
    def test_cells_and_fields(self):
        for text, row, answer in (
                ("fun main () num = 5", "lay", "0 0"),
                ("fun main () list num = (nil num)", "lay", "0 0"),
                ("fun main () list num = (cons 1 (cons 2 (nil num)))", "lay", "2 1"),
                ("fun main () num = (first (pair 1 2))", "lay", "1 1"),
                ("fun main () num = (head (cons 1 (cons 2 (nil num))))", "lay", "2 1"),
                ("fun main () num = (plus (first (pair 1 2)) (first (pair 1 2)))", "lay", "2 2"),
                ("fun main () pair num num = (pair (first (pair 1 2)) (first (pair 1 2)))", "lay", "3 3"),
                ("fun main (n num) num = (if n (first (pair 1 2)) 0)", "lay 0", "0 0"),
                ("fun main (n num) num = (if n (first (pair 1 2)) 0)", "lay 1", "1 1"),
                (SUM, "lay 5", "1 1"), (BOTH, f"lay {BIG} -1", "2 1")):
            self.says(loaded(text), row, answer)

    def test_all_that_were_laid_and_opened(self):
        # More than lie at once, and more than nine of each.
        desk = loaded(SAMPLES["fresh"][0])
        for n in range(12):
            self.says(desk, f"lay {n}", f"{n + 1} {n + 1}")
        desk = loaded(SAMPLES["turn"][0])
        for n in range(12):
            self.says(desk, f"lay {n}", f"{3 * n + 1} 4")


class Bound(Case):
    def test_bounds(self):
        for text, answer in (
                ("fun main () num = 5", "0 0"), (BOTH, "2 1"), (SUM, "none"),
                ("fun main () num = (plus (first (pair 1 2)) (first (pair 1 2)))", "1 1"),
                ("fun main () pair num num = (pair (first (pair 1 2)) (first (pair 1 2)))", "1 2"),
                ("fun main () num = 1; fun f () num = (call f)", "none")):
            self.says(loaded(text), "bound", answer)

    def test_many_cells(self):
        calls = "(call f " * 9 + "(nil num)" + ")" * 9
        turn = "(call g " * 9 + "l" + ")" * 9
        desk = loaded(f"fun main () list num = {calls}; fun f (l list num) list num = {turn}; fun g (l list num) list num = (cons 1 l)")
        self.says(desk, "bound", "81 1")
        self.says(desk, "lay", "81 1")


class Sign(Case):
    def test_signs(self):
        for function, answer in (
                ("fun f () num = 1", "num /"),
                ("fun f (a num) num = a", "num num /"),
                ("fun f (a num, b num, c num, d num) num = a", "num num num num num /"),
                ("fun f () list num = (nil num)", "list 0:num /"),
                ("fun f () list num = (cons 1 (nil num))", "list 0:num / 0"),
                ("fun f (l list num) list num = (cons 1 l)", "list 0:num list 0:num / 0"),
                ("fun f (l list num) list num = (tail l)", "list 0:num list 0:num / 0"),
                ("fun f (l list num) list num = l", "list 0:num list 0:num /"),
                ("fun f (l list num) list num = (cons (head l) (nil num))", "list 0:num list 1:num / 0 1"),
                ("fun f (l list num, p pair num list num) num = (first p)", "list 0:num pair 1:num list 2:num num / 1"),
                ("fun f (n num) pair num list num = (pair n (nil num))", "num pair 0:num list 1:num / 0"),
                ("fun f (p pair pair num num list list num) num = 1", "pair 0:pair 1:num num list 2:list 3:num num /"),
                ("fun f (p pair list num pair num num, n num) list num = (first p)",
                 "pair 0:list 1:num pair 2:num num num list 1:num / 0"),
                ("fun f (l list list list list list list num) num = (head (head (head (head (head (head l))))))",
                 "list 0:list 1:list 2:list 3:list 4:list 5:num num / 0 1 2 3 4 5"),
                ("fun f (a list list num, b list list num) num = (head (head b))", "list 0:list 1:num list 2:list 3:num num / 2 3")):
            self.says(loaded("fun main () num = 1; " + function), "sign f", answer)
            self.says(loaded(function + "; fun main () num = 1"), "sign f", answer)

    def test_a_field_of_two_figures(self):
        kinds = "list list list list list list num"
        text = f"fun main () num = 1; fun f (a {kinds}, b {kinds}) num = (head (head (head (head (head (head b))))))"
        answer = "".join(f"list {field}:" for field in range(6)) + "num " + "".join(f"list {field}:" for field in range(6, 12)) + "num"
        self.says(loaded(text), "sign f", answer + " num / 6 7 8 9 10 11")

    def test_names(self):
        desk = loaded("fun main () num = 1; fun eightsig (n num) num = n; fun sign () list num = (nil num); fun x () num = 2; fun run () num = 3")
        self.says(desk, "sign main", "num /")
        self.says(desk, "sign eightsig", "num num /")
        self.says(desk, "sign sign", "list 0:num /")
        self.says(desk, "sign x", "num /")
        self.says(desk, "sign run", "num /")

    def test_samples(self):
        desk = loaded(SAMPLES["turn"][0])
        self.says(desk, "sign main", "num pair 0:list 1:num list 2:num / 0 1 2")
        self.says(desk, "sign down", "num list 0:num / 0")
        self.says(desk, "sign turn", "list 0:num list 1:num list 1:num / 0 1")
        self.says(desk, "sign copy", "list 0:num list 1:num / 0 1")


class Refusals(Case):
    def test_rows_of_no_form(self):
        for desk in (Desk(), loaded(BOTH), loaded("fun main () num = 1"), loaded("fun main (n num) num = n")):
            for row in STRANGE + NO_TEXTS:
                self.refuses(desk, row, NoRow)

    def test_no_program(self):
        desk = Desk()
        for row in ("run", "run 5", "run 1 2 3 4 5", "lay", "lay 5", "bound", "sign main", "sign f"):
            self.refuses(desk, row, NoProgram)
        self.refuses(desk, "load fun main () num =", NoText)
        self.refuses(desk, "run", NoProgram)
        self.says(desk, "load fun main () num = 1", "loaded")
        self.says(desk, "run", "1")

    def test_another_count_of_numbers(self):
        takers = ["a num", "b num", "c num", "d num"]
        for many in range(5):
            desk = loaded(f"fun main ({', '.join(takers[:many])}) num = 7")
            for given in range(7):
                for word, answer in (("run", "7"), ("lay", "0 0")):
                    row = word + " 3" * given
                    if given == many:
                        self.says(desk, row, answer)
                    else:
                        self.refuses(desk, row, NoName)

    def test_a_strange_function(self):
        desk = loaded(SUM)
        for name in ("f", "n", "l", "mains", "su", "eightsig"):
            self.refuses(desk, "sign " + name, NoName)

    def test_in_this_order(self):
        # Of no form ahead of no program, and of another count.
        self.refuses(Desk(), "run x", NoRow)
        self.refuses(Desk(), "sign if", NoRow)
        desk = loaded("fun main (n num) num = (head (nil num))")
        self.refuses(desk, "run 1 2 05", NoRow)
        self.refuses(desk, "run 1 2", NoName)
        self.refuses(desk, "lay", NoName)
        self.refuses(desk, "run 1", Empty)

    def test_what_is_refused_changes_nothing(self):
        desk = loaded(BOTH)
        for row in STRANGE + NO_TEXTS + ["run", "run 1", "lay 1 2 3", "sign f", "load fun", "load "]:
            with self.assertRaises(GateError):
                desk.say(row)
            self.assertEqual([desk.say(good) for good in ("run 5 6", "lay 5 6", "bound", "sign main")],
                             ["[5,6]", "2 1", "2 1", "num num list 0:num / 0"])


class Desks(Case):
    def test_apart_from_each_other(self):
        one, other = Desk(), Desk()
        self.says(one, "load fun main () num = 1", "loaded")
        self.refuses(other, "run", NoProgram)
        self.says(other, "load " + BOTH, "loaded")
        self.says(one, "run", "1")
        self.says(other, "run 1 2", "[1,2]")
        self.refuses(one, "load x", NoText)
        self.says(other, "bound", "2 1")
        self.refuses(Desk(), "bound", NoProgram)

    def test_what_is_asked_again_is_told_as_before(self):
        desk = loaded(SAMPLES["sort"][0])
        rows = ["run 4 3 2 1", "lay 4 3 2 1", "bound", "sign put", "run 1 2 3 4"]
        before = [desk.say(row) for row in rows]
        self.assertEqual([desk.say(row) for row in rows + rows[::-1]], before + before[::-1])

    def test_made_programs(self):
        many = 0
        for seed in range(200):
            dice = random.Random(seed)
            program = program_made(seed)
            desk = loaded(text_of(program, any_gap(dice)))
            numbers = [dice.randint(-3, 3) for taker in main_of(program)[1]]
            row = "run" + "".join(f" {number}" for number in numbers)
            try:
                self.says(desk, row, written(plain_run(program, numbers)))
                many += 1
            except GateError as error:
                self.refuses(desk, row, type(error))
            most = bound(placed(fielded(program)))
            self.says(desk, "bound", "none" if most is None else f"{most[0]} {most[1]}")
            for function, (takers, gives, touched) in zip(program, signs(program)):
                answer = desk.say("sign " + function[0])
                self.assertEqual(answer.partition(" /")[2], "".join(f" {field}" for field in touched))
                kinds = repr(takers + [gives]).replace("'", "").replace("(num,)", "num")
                self.assertEqual([sign for sign in answer.partition(" /")[0] if sign.isalnum()],
                                 [sign for sign in kinds if sign.isalnum()])
        self.assertGreater(many, 100)


if __name__ == "__main__":
    unittest.main()
