"""What read and look_over refuse, and in which order: points 4 and 5."""

import random
import unittest

from fieldgate.errors import NoKind, NoName, NoText, Twice
from fieldgate.kinds import look_over
from fieldgate.reading import read
from fieldgate.showing import shown
from making import MARKS, any_gap, joined, kept, one_blank, program_made, program_pieces, text_of, tight

KEPT = ["fun", "num", "list", "pair", "plus", "minus", "times", "less", "first", "second", "nil", "cons", "head",
        "tail", "none", "let", "if", "call"]


def main_with(body):
    return "fun main (n num) num = " + body


def nest(many, inside="1"):
    """A body with so many brackets open at its midst."""
    return "(plus 1 " * many + inside + ")" * many


def bush(many):
    """A body of so many parts, an odd count, with few brackets open at once."""
    if many == 1:
        return "1"
    half = (many - 1) // 2
    left = half if half % 2 == 1 else half - 1
    return f"(plus {bush(left)} {bush(many - 1 - left)})"


class Case(unittest.TestCase):
    def refused(self, error, text):
        with self.subTest(text if len(str(text)) < 200 else str(text)[:200]):
            with self.assertRaises(error) as caught:
                read(text)
            self.assertIs(type(caught.exception), error)


class OtherSigns(Case):
    def test_no_text(self):
        for thing in [None, True, 0, 7, b"fun main () num = 0", ["fun main () num = 0"], (), {}]:
            self.refused(NoText, thing)

    def test_other_signs_anywhere(self):
        pieces = ["fun", "main", "(", "n", "num", ")", "num", "=", "(", "plus", "n", "1", ")"]
        for sign in ["\t", "\r", "\x0b", "\x0c", "\x00", "\x1c", "\x85", "\xa0", "\u2028", "\u3000", "\ufeff", ".",
                     "+", "*", "_", "'", '"', "[", "]", "{", "}", "<", ">", ":", "#", "/", "A", "Z", "\xe9", "\xb5",
                     "\u0131", "\u0661", "\uff11", "\xb2", "\ud800"]:
            for place in range(len(pieces) + 1):
                self.refused(NoText, " ".join(pieces[:place] + [sign] + pieces[place:]))
                if place < len(pieces):
                    self.refused(NoText, " ".join(pieces[:place] + [pieces[place] + sign] + pieces[place + 1:]))
                    self.refused(NoText, " ".join(pieces[:place] + [sign + pieces[place]] + pieces[place + 1:]))

    def test_great_letters_and_other_figures_in_the_place_of_the_right_ones(self):
        for body in ["N", "nN", "(Plus n 1)", "(PLUS n 1)", "\u0661", "1\u0661", "\uff11", "1_0", "+1", "1.0", "1e3",
                     "0x1", "n\xe9"]:
            self.refused(NoText, main_with(body))


    def test_every_sign_beside_a_number_and_a_name(self):
        for sign in [chr(number) for number in range(0x250)] + ["\u0660", "\u2212", "\uff0d", "\uff41", "\U0001d7d9"]:
            if sign in " \n":
                continue
            for body in ["1" + sign, sign + "1", "n" + sign, sign + "n", sign]:
                if body.isascii() and (body.isdigit() or body[:1] == "-" and body[1:].isdigit()):
                    if str(int(body)) == body:
                        self.assertEqual(read(main_with(body))[0][3], ("number", int(body)))
                    else:
                        self.refused(NoText, main_with(body))
                elif body == "n":
                    self.assertEqual(read(main_with(body))[0][3], ("name", "n"))
                elif body.isascii() and body.isalpha() and body.islower() and body not in KEPT:
                    self.refused(NoName, main_with(body))
                else:
                    self.refused(NoText, main_with(body))

    def test_texts_that_were_spoilt_by_chance(self):
        """Whatever stands in a text, it is told or refused by one of the four, and nothing else comes of it."""
        seen = set()
        for seed in range(1500):
            dice = random.Random(seed)
            text = text_of(program_made(seed % 50), any_gap(dice))
            for turn in range(dice.randint(1, 3)):
                place = dice.randrange(len(text))
                put = dice.choice(["", "(", ")", ",", "=", ";", "-", "0", "1", "a", " ", "x", " x ", "num", "list "])
                text = text[:place] + put + text[place + dice.randint(0, 2):]
            try:
                self.assertEqual(read(shown(read(text))), read(text))
                seen.add(None)
            except (NoText, Twice, NoName, NoKind) as refusal:
                seen.add(type(refusal))
        self.assertLessEqual({None, NoText, NoName, NoKind}, seen)


class OtherForm(Case):
    def test_nothing_and_less_than_a_function(self):
        pieces = program_pieces(read(main_with("(let x (cons n (nil num)) (if (none x) 1 (call main n)))")))
        for many in range(len(pieces)):
            self.refused(NoText, " ".join(pieces[:many]))
        for text in ["", " ", "\n", "main", "0", "n", ";", "()"]:
            self.refused(NoText, text)

    def test_marks_left_out_or_too_many(self):
        for seed in range(30):
            pieces = program_pieces(program_made(seed))
            for place in [place for place in range(len(pieces)) if pieces[place] in MARKS]:
                self.refused(NoText, joined(pieces[:place] + pieces[place + 1:], tight))
                self.refused(NoText, joined(pieces[:place + 1] + pieces[place:], tight))
                for mark in MARKS.replace(pieces[place], ""):
                    self.refused(NoText, joined(pieces[:place] + [mark] + pieces[place + 1:], one_blank))

    def test_marks_where_none_belong(self):
        pieces = program_pieces(read("fun main (n num, m num) num = (call f n (plus m 1)); fun f (a num, b num) num = a"))
        for mark in MARKS:
            for place in range(len(pieces) + 1):
                self.refused(NoText, joined(pieces[:place] + [mark] + pieces[place:], one_blank))

    def test_marks_at_the_ends(self):
        for text in ["fun main () num = 0;", ";fun main () num = 0", "fun main () num = 0;;fun f () num = 0",
                     "fun main () num = 0 fun f () num = 0", "fun main () num = 0, fun f () num = 0",
                     "fun main (,) num = 0", "fun main (n num,) num = 0", "fun main (,n num) num = 0",
                     "fun main (n num,,m num) num = 0", "fun main (n num m num) num = 0",
                     "fun main (n num; m num) num = 0", "fun main n num num = 0", "fun main num = 0",
                     "fun main () num 0", "fun main () num == 0", "fun main () = 0", "fun main (n) num = 0",
                     "fun main (num) num = 0", "fun main (num n) num = 0", "fun () num = 0", "main () num = 0",
                     "fun main () num = 0 0", "fun main () num = (0)", "fun main () num = ()",
                     "(fun main () num = 0)", "fun main () num = 0)", "fun main () num = ((plus 1 1))"]:
            self.refused(NoText, text)

    def test_kept_words_as_names(self):
        for word in KEPT:
            for text in [f"fun {word} () num = 0; fun main () num = 0", f"fun main ({word} num) num = 0",
                         main_with(word), main_with(f"(plus {word} 1)"), main_with(f"(let {word} 1 n)"),
                         main_with(f"(call {word} 1)"), main_with(f"(call main {word})")]:
                self.refused(NoText, text)

    def test_words_that_begin_no_part(self):
        for word in ["fun", "num", "list", "number", "name", "field", "main", "n", "add", "1", "-1", "=", ";", ","]:
            for behind in ["", " 1", " n", " 1 1", " num", " 1 1 1"]:
                self.refused(NoText, main_with(f"({word}{behind})"))

    def test_parts_too_few_or_too_many(self):
        right = {"plus": 2, "minus": 2, "times": 2, "less": 2, "pair": 2, "first": 1, "second": 1, "cons": 2,
                 "head": 1, "tail": 1, "none": 1, "if": 3}
        for word in right:
            for many in range(6):
                if many != right[word]:
                    self.refused(NoText, main_with("(" + word + " n" * many + ")"))
        for many in [0, 1, 3, 4]:
            self.refused(NoText, main_with("(let x" + " n" * many + ")"))
        for body in ["(let)", "(let 1 n n)", "(let (plus 1 1) n n)", "(call)", "(call 1)", "(call (plus 1 1) n)",
                     "(call main num)", "(let x num x)"]:
            self.refused(NoText, main_with(body))

    def test_kinds_of_other_form(self):
        for kind in ["", "list", "pair", "pair num", "num num", "list num num", "pair num num num", "fun", "n",
                     "list n", "1", "(num)", "(list num)", "pair num, num", "list list", "nums", "nil num"]:
            self.refused(NoText, f"fun main () num = 0; fun f (x {kind}) num = 0")
            self.refused(NoText, f"fun main () num = 0; fun f () {kind} = 0")
            self.refused(NoText, main_with(f"(none (nil {kind}))"))

    def test_run_together(self):
        for text in ["funmain (n num) num = n", "fun main (nnum) num = n", "fun main (n num) num = (plusn 1)",
                     "fun main (n num) num = (plus n1)", "fun main (n num) num = (plus 1n)",
                     "fun main (n num) num = (plus 1-1)", "fun main (n num) num = (plus n-1)",
                     "fun main (n num) num = (plus1 n)", "fun main (n num) num = (plus-1 n)",
                     "fun main (n num) num = (plus n 1n)", "fun main (n num) num = (plus n n1)",
                     "fun main (n num) num = (plus n 1-1)", "fun main (n num) num = (plus n 1-)",
                     "fun main (n num) num = (nilnum)", "fun main (n listnum) num = 1",
                     "fun main (n num) num = (callmain n)", "fun main (n num) num = n-", "fun main (n num) num = n1"]:
            self.refused(NoText, text)

    def test_numbers_of_other_form(self):
        for number in ["00", "01", "-0", "-00", "-01", "007", "-", "--1", "- 1", "-\n1", "1-", "-n", "+1",
                       "0" * 30, "0" + "1" * 29]:
            self.refused(NoText, main_with(number))
            self.refused(NoText, main_with(f"(plus {number} n)"))
            self.refused(NoText, main_with(f"(call main {number})"))


class Bounds(Case):
    def test_signs(self):
        text = main_with("n")
        for around in [lambda many: text + " " * many, lambda many: "\n" * many + text,
                       lambda many: text.replace("= n", "=" + " " * many + " n")]:
            least = 4000 - len(text)
            self.assertEqual(len(around(least)), 4000)
            self.assertEqual(read(around(least)), read(text))
            self.refused(NoText, around(least + 1))
        for many in [4001, 5000, 10 ** 6]:
            self.refused(NoText, " " * many + text)
            self.refused(NoText, "n" * many)
            self.refused(NoText, main_with("9" * many))

    def test_parts_of_one_body(self):
        self.assertEqual(len(read(main_with(bush(119)))), 1)
        self.assertEqual(len(read(main_with(f"(none (cons {bush(117)} (nil num)))"))), 1)
        self.refused(NoText, main_with(bush(121)))
        self.refused(NoText, main_with(bush(301)))

    def test_parts_of_all_bodies_together(self):
        for first, second in [(119, 1), (1, 119), (61, 59), (3, 117)]:
            text = f"fun main () num = {bush(first)}; fun f () num = {bush(second)}"
            self.assertEqual(len(read(text)), 2)
            self.refused(NoText, text + "; fun g () num = 1")
            self.refused(NoText, "fun g () num = 1;" + text)
        self.assertEqual(len(read(";".join(f"fun {name} () num = {bush(19)}" for name in ["main", "b", "c", "d", "e"])
                                  + "; fun f () num = (let x (call main) " + bush(23) + ")")), 6)

    def test_each_form_counts_its_parts(self):
        rest = "; fun f () num = "
        for body, many in [("(none (nil num))", 2), ("(let x 1 x)", 3), ("(if 1 2 3)", 4), ("(call main 1)", 2),
                           ("(first (pair 1 2))", 4), ("(second (pair n n))", 4), ("(head (cons n (nil num)))", 4),
                           ("(none (tail (nil num)))", 3), ("(less 1 2)", 3), ("(minus n n)", 3), ("(times 1 2)", 3)]:
            fill = 120 - many
            if fill % 2 == 0:
                body = f"(none (cons {body} (nil num)))"
                fill -= 3
            self.assertEqual(len(read(main_with(body) + rest + bush(fill))), 2)
            self.refused(NoText, main_with(body) + rest + bush(fill + 2))
            self.refused(NoText, main_with(body) + rest + f"(none (cons {bush(fill - 2)} (nil num)))")

    def test_brackets(self):
        self.assertEqual(len(read(main_with(nest(10)))), 1)
        self.assertEqual(len(read(main_with(nest(8, "(none (nil num))")))), 1)
        self.refused(NoText, main_with(nest(11)))
        self.refused(NoText, main_with(nest(9, "(none (nil num))")))
        self.refused(NoText, main_with(nest(10, "(call main 1)")))
        text = "fun main (a num, b num) num = " + nest(10) + "; fun f (c num) num = " + nest(10)
        self.assertEqual(len(read(text)), 2)
        self.refused(NoText, text + "; fun g () num = " + nest(11))
        for many in [2, 11, 500, 3000]:
            self.refused(NoText, "fun main " + "(" * many + "n num" + ")" * many + " num = n")

    def test_brackets_far_beyond(self):
        for many in [12, 100, 495]:
            for form, least in [("(plus 1 ", "1"), ("(none ", "n"), ("(let a 1 ", "n"), ("(call main ", "n"),
                                ("(if 1 n ", "n"), ("(", "n")]:
                if len(form) * many + many < 3900:
                    self.refused(NoText, main_with(form * many + least + ")" * many))
                self.refused(NoText, main_with(form * (3900 // len(form))))
        self.refused(NoText, "(" * 4000)
        self.refused(NoText, ")" * 4000)
        self.refused(NoText, ")" * 2000 + "(" * 2000)

    def test_kind_words(self):
        seven = ["list list list list list list num", "pair pair num num pair num num",
                 "pair num pair num pair num num", "list list pair num pair num num"]
        eight = ["list " + kind for kind in seven] + ["pair num " + seven[0][5:], "pair list list list list num num num"]
        for kind in seven:
            self.assertEqual(len(kind.split()), 7)
            self.assertEqual(len(read(f"fun main () num = 0; fun f (a num, x {kind}) num = 0")), 2)
            self.assertEqual(len(read(f"fun main () num = 0; fun f () {kind} = (call f)")), 2)
            self.assertEqual(len(read(main_with(f"(none (nil {kind}))"))), 1)
        for kind in eight:
            self.assertEqual(len(kind.split()), 8)
            self.refused(NoText, f"fun main () num = 0; fun f (a num, x {kind}) num = 0")
            self.refused(NoText, f"fun main () num = 0; fun f () {kind} = (call f)")
            self.refused(NoText, main_with(f"(none (nil {kind}))"))

    def test_kind_words_far_beyond(self):
        for many in [9, 100, 390]:
            for kind in ["list " * many + "num", "pair num " * many + "num", "pair " * many + "num " * (many + 1)]:
                self.refused(NoText, f"fun main () num = 0; fun f (a num, x {kind}) num = 0")
                self.refused(NoText, f"fun main () num = 0; fun f () {kind} = (call f)")
                self.refused(NoText, main_with(f"(none (nil {kind}))"))
        for word in ["list ", "pair ", "num "]:
            self.refused(NoText, "fun main () " + word * 700)
            self.refused(NoText, "fun main (n " + word * 700)
            self.refused(NoText, "fun main () num = (nil " + word * 700)

    def test_a_kind_that_was_not_written_may_have_more_words(self):
        seven = "list list list list list list num"
        text = f"fun main () num = (let x (pair (nil {seven}) (nil {seven})) (none (tail (cons x (cons x (cons x (nil num)))))))"
        self.refused(NoKind, text)
        self.assertEqual(len(read(f"fun main () num = (let x (pair (nil {seven}) (nil {seven})) (none (first x)))")), 1)

    def test_functions(self):
        functions = [f"fun {name} () num = 0" for name in ["a", "b", "main", "d", "e", "f", "g", "h"]]
        for many in [3, 4, 5, 6]:
            self.assertEqual(len(read(";".join(functions[:many]))), many)
        self.refused(NoText, ";".join(functions[:7]))
        self.refused(NoText, ";".join(functions))
        self.refused(NoText, ";".join(functions[:1] * 100))

    def test_takers(self):
        takers = ["a num", "b num", "c num", "d num", "e num", "f num"]
        for many in range(5):
            self.assertEqual(len(read("fun main (" + ",".join(takers[:many]) + ") num = 0")[0][1]), many)
        for many in [5, 6]:
            self.refused(NoText, "fun main (" + ",".join(takers[:many]) + ") num = 0")
        self.refused(NoText, "fun main (" + ",".join(takers * 50) + ") num = 0")

    def test_parts_of_a_call(self):
        text = "fun main (a num, b num, c num, d num) num = (call main "
        self.assertEqual(len(read(text + "1 2 3 4)")), 1)
        self.refused(NoKind, text + "1 2 3)")
        self.refused(NoText, text + "1 2 3 4 5)")
        self.refused(NoText, text + "1 " * 100 + ")")
        self.refused(NoText, "fun main () num = (call nosuch 1 2 3 4 5)")

    def test_letters_of_a_name(self):
        for text in ["fun NAME () num = 0; fun main () num = (call NAME)", "fun main (NAME num) num = NAME",
                     main_with("(let NAME 1 NAME)")]:
            for name in ["a", "abcdefg", "abcdefgh"]:
                self.assertIn(f"{name!r}", repr(read(text.replace("NAME", name))))
            for name in ["abcdefghi", "a" * 100, "a" * 1000]:
                self.refused(NoText, text.replace("NAME", name))
        self.refused(NoText, main_with("abcdefghi"))
        self.refused(NoText, main_with("(call abcdefghi 1)"))
        self.refused(NoName, main_with("abcdefgh"))
        self.refused(NoName, main_with("(call abcdefgh 1)"))

    def test_figures_of_a_number(self):
        for sign in ["", "-"]:
            for figures in ["9" * 30, "1" + "0" * 29, "1" * 29]:
                self.assertEqual(read(main_with(sign + figures))[0][3], ("number", int(sign + figures)))
            for figures in ["9" * 31, "1" + "0" * 30, "1" * 60, "1" * 1000, "1" * 3900]:
                self.refused(NoText, main_with(sign + figures))
                self.refused(NoText, main_with(f"(plus {sign + figures} n)"))


class Twices(Case):
    def test_two_functions(self):
        for text in ["fun main () num = 0; fun main () num = 0", "fun main () num = 0; fun f () num = 1; fun f () num = 1",
                     "fun f () num = 0; fun main () num = 0; fun f (x num) list num = (nil num)"]:
            self.refused(Twice, text)

    def test_two_takers(self):
        for text in ["fun main (a num, a num) num = 0", "fun main (a num, b num, a num) num = 0",
                     "fun main () num = 0; fun f (a num, b list num, c num, b num) num = 0"]:
            self.refused(Twice, text)

    def test_takers_of_unlike_functions_and_lets_may_share_names(self):
        self.assertEqual(len(read("fun main (a num) num = (let a 1 (let a a a)); fun f (a num, f num) num = a")), 2)


class NoNames(Case):
    def test_no_main(self):
        self.refused(NoName, "fun f () num = 0")
        self.refused(NoName, "fun f (main num) num = (let main main main); fun g () num = 1")

    def test_a_name_that_is_not_there(self):
        for body in ["x", "main", "(plus x n)", "(plus n x)", "(none x)", "(if n n x)", "(if x n n)", "(if n x n)",
                     "(let x x n)", "(let x (plus n x) x)", "(plus (let x 1 x) x)", "(let y (let x 1 x) x)",
                     "(call main x)", "(cons 1 x)", "(pair x 1)", "(first x)", "(second x)", "(head x)", "(tail x)",
                     "(let x 1 (let y x (plus z x)))", "(minus 1 x)", "(times x 1)", "(less 1 x)"]:
            self.refused(NoName, main_with(body))

    def test_a_taker_of_another_function(self):
        self.refused(NoName, "fun main () num = x; fun f (x num) num = x")
        self.refused(NoName, "fun f (x num) num = x; fun main () num = x")
        self.refused(NoName, "fun main () num = 1; fun f (x num) num = (let y x y); fun g () num = y")

    def test_a_function_that_is_not_there(self):
        for body in ["(call f)", "(call n)", "(call n 1)", "(plus 1 (call f 1))", "(let f 1 (call f))",
                     "(let x (call f) 1)", "(call main (call f))", "(if 1 1 (call f))"]:
            self.refused(NoName, main_with(body))

    def test_what_is_there(self):
        for body in ["n", "(let x n x)", "(let x 1 (let y x (plus x y)))", "(let n n n)", "(plus (let x 1 x) (let x 2 x))",
                     "(call main n)", "(call f)", "(let x 1 (let x x x))"]:
            self.assertEqual(len(read(main_with(body) + "; fun f () num = 1")), 2)


class Order(Case):
    TEXTS = {
        NoText: ["fun d () num = 01", "fun d () num = (plus 1)", "fun d () num = (nil list list list list list list list num)"],
        Twice: ["fun c (a num, a num) num = 1"],
        NoName: ["fun e () num = x", "fun e () num = (call nosuch)"],
        NoKind: ["fun f () num = (nil num)", "fun f () list num = 1"],
    }

    def test_the_first_of_several_in_unlike_functions(self):
        order = [NoText, Twice, NoName, NoKind]
        for first in range(4):
            for later in range(first, 4):
                for text in self.TEXTS[order[first]]:
                    for other in self.TEXTS[order[later]]:
                        functions = [text, other] if first != later else [text]
                        self.refused(order[first], ";".join(functions + ["fun main () num = 0"]))
                        self.refused(order[first], ";".join(["fun main () num = 0"] + functions[::-1]))

    def test_all_at_once(self):
        order = [NoText, Twice, NoName, NoKind]
        for first in range(4):
            functions = [self.TEXTS[error][0] for error in order[first:]] + ["fun main () num = 0"]
            self.refused(order[first], ";".join(functions))
            self.refused(order[first], ";".join(functions[::-1]))

    def test_several_in_one_function(self):
        for error, text in [
                (NoText, "fun main (a num, a num) num = (plus x (nil num)) 1"),
                (NoText, "fun f (a num, a num) num = (plus x (nil num));"),
                (Twice, "fun main (a num, a num) num = (plus x (nil num))"),
                (NoName, "fun main (a num, b num) num = (plus x (nil num))"),
                (NoName, "fun main (a num, b num) num = (plus (nil num) x)"),
                (NoName, "fun main (a list num) num = x"),
                (NoName, "fun main () num = (plus (nil num) (call f))"),
                (NoName, "fun main () num = (call main (call f))"),
                (NoKind, "fun main (a num, b num) num = (plus a (nil num))")]:
            self.refused(error, text)

    def test_a_missing_main(self):
        self.refused(NoName, "fun f () num = (nil num)")
        self.refused(Twice, "fun f () num = (nil num); fun f () num = 0")
        self.refused(Twice, "fun f (a num, a num) num = 0")
        self.refused(NoText, "fun f () num = (nil num)))")

    def test_bounds_come_ahead_of_the_others(self):
        self.refused(NoText, "fun f (a num, a num) num = " + nest(11, "x"))
        self.refused(NoText, "fun f (a num, a num) num = (plus x " + bush(121) + ")")
        self.refused(NoText, "fun f (a num, a num) num = x" + " " * 4000)
        self.refused(NoText, ";".join(["fun f (a num, a num) num = x"] * 7))


class LookOver(unittest.TestCase):
    NUM = ("num",)
    ONE = ("number", 1)
    MAIN = ("main", [], NUM, ONE)

    def refused(self, error, program):
        with self.subTest(program):
            before = kept(program)
            with self.assertRaises(error) as caught:
                look_over(program)
            self.assertIs(type(caught.exception), error)
            self.assertEqual(program, before)

    def test_nothing_refused(self):
        for seed in range(60):
            program = program_made(seed)
            self.assertIsNone(look_over(program))
            self.assertEqual(program, program_made(seed))

    def test_refused_as_read(self):
        nil = ("nil", self.NUM)
        twice = ("c", [("a", self.NUM), ("a", self.NUM)], self.NUM, self.ONE)
        noname = ("e", [], self.NUM, ("plus", self.ONE, ("name", "x")))
        nocall = ("e", [], self.NUM, ("call", "nosuch"))
        nokind = ("f", [], self.NUM, nil)
        self.refused(Twice, [nokind, noname, twice, self.MAIN])
        self.refused(Twice, [nokind, noname, self.MAIN, noname])
        self.refused(Twice, [twice])
        self.refused(NoName, [nokind, self.MAIN, noname])
        self.refused(NoName, [noname, self.MAIN, nokind])
        self.refused(NoName, [nokind, self.MAIN, nocall])
        self.refused(NoName, [nokind])
        self.refused(NoKind, [nokind, self.MAIN])
        self.refused(NoKind, [("main", [("n", ("list", self.NUM))], self.NUM, self.ONE)])

    def test_nothing_is_refused_for_a_bound(self):
        deep = ("number", 10 ** 40)
        for turn in range(20):
            deep = ("plus", deep, ("times", self.ONE, ("minus", self.ONE, ("less", self.ONE, self.ONE))))
        takers = [(f"{letter}bcdefghi", self.NUM) for letter in "abcdef"]
        wide = self.NUM
        for turn in range(12):
            wide = ("pair", wide, ("list", self.NUM))
        program = [("main", takers, self.NUM, deep)] + [
            (name, [("x", wide)], self.NUM, ("call", "main") + (self.ONE,) * 6) for name in "abcdefg"]
        self.assertIsNone(look_over(program))

    def test_nothing_done_later_changes_an_answer(self):
        program = program_made(3)
        self.assertIsNone(look_over(program))
        program.append(("main", [], self.NUM, self.ONE))
        self.refused(Twice, program)
        program.pop()
        self.assertIsNone(look_over(program))
        self.assertEqual(read(text_of(program)), program_made(3))


if __name__ == "__main__":
    unittest.main()
