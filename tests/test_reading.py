"""What read tells of texts: points 4 and 5, and point 2 of what is given back."""

import random
import unittest

from fieldgate.reading import read
from making import (all_whole, all_words, any_gap, one_blank, program_made, program_pieces, spoilt, text_of,
                    tight)

NUM = ("num",)
NUMS = ("list", NUM)
TEXT = ("fun main (n num) num = (call sum (cons n (nil num))); "
        "fun sum (l list num) num = (if (none l) 0 (plus (head l) (call sum (tail l))))")


def body_of(text):
    return read(text)[0][3]


class Told(unittest.TestCase):
    def test_the_document_s_own_text(self):
        main = ("main", [("n", NUM)], NUM, ("call", "sum", ("cons", ("name", "n"), ("nil", NUM))))
        body = ("if", ("none", ("name", "l")), ("number", 0),
                ("plus", ("head", ("name", "l")), ("call", "sum", ("tail", ("name", "l")))))
        self.assertEqual(read(TEXT), [main, ("sum", [("l", NUMS)], NUM, body)])

    def test_the_least_text(self):
        self.assertEqual(read("fun main()num=0"), [("main", [], NUM, ("number", 0))])

    def test_each_form_of_part(self):
        takers = [("a", NUM), ("b", NUM)]
        a = ("name", "a")
        b = ("name", "b")
        one = ("number", 1)
        pair = ("pair", a, b)
        cell = ("cons", a, ("nil", NUM))
        for text, body in [
                ("a", a), ("7", ("number", 7)), ("-7", ("number", -7)),
                ("(plus a b)", ("plus", a, b)), ("(minus a b)", ("minus", a, b)),
                ("(times a b)", ("times", a, b)), ("(less a b)", ("less", a, b)),
                ("(first (pair a b))", ("first", pair)), ("(second (pair a b))", ("second", pair)),
                ("(head (cons a (nil num)))", ("head", cell)),
                ("(head (tail (cons a (nil num))))", ("head", ("tail", cell))),
                ("(none (nil pair num list num))", ("none", ("nil", ("pair", NUM, NUMS)))),
                ("(let x a (plus x b))", ("let", "x", a, ("plus", ("name", "x"), b))),
                ("(if a b 1)", ("if", a, b, one)),
                ("(call main a 1)", ("call", "main", a, one))]:
            with self.subTest(text):
                told = read("fun main (a num, b num) num = " + text)
                self.assertEqual(told, [("main", takers, NUM, body)])
                self.assertTrue(all_whole(told))

    def test_calls_of_none_to_four_parts(self):
        for many in range(5):
            takers = ", ".join(["a num", "b num", "c num", "d num"][:many])
            text = f"fun main () num = (call f{' 3' * many}); fun f ({takers}) num = 1"
            self.assertEqual(body_of(text), ("call", "f") + (("number", 3),) * many)

    def test_kinds(self):
        for text, kind in [
                ("num", NUM), ("list num", NUMS), ("pair num num", ("pair", NUM, NUM)),
                ("list list num", ("list", NUMS)), ("pair list num num", ("pair", NUMS, NUM)),
                ("pair num list num", ("pair", NUM, NUMS)), ("list pair num num", ("list", ("pair", NUM, NUM))),
                ("pair pair num list num num", ("pair", ("pair", NUM, NUMS), NUM)),
                ("pair num pair list num num", ("pair", NUM, ("pair", NUMS, NUM)))]:
            with self.subTest(text):
                told = read(f"fun main () num = 0; fun f (x {text}) {text} = x; fun g () list {text} = (nil {text})")
                self.assertEqual(told[1], ("f", [("x", kind)], kind, ("name", "x")))
                self.assertEqual(told[2], ("g", [], ("list", kind), ("nil", kind)))

    def test_numbers(self):
        for number in [0, 1, -1, 9, 10, -10, 100, 10 ** 29, -(10 ** 29), 10 ** 30 - 1, -(10 ** 30) + 1]:
            told = body_of(f"fun main () num = {number}")
            self.assertEqual(told, ("number", number))
            self.assertIs(type(told[1]), int)

    def test_words_that_are_not_kept_are_names(self):
        for name in ["number", "name", "field", "main", "a", "abcdefgh", "fu", "funs", "nums", "ifs", "calls"]:
            text = f"fun main ({name} num) num = (let {name} {name} {name})"
            part = ("name", name)
            self.assertEqual(read(text), [("main", [(name, NUM)], NUM, ("let", name, part, part))])

    def test_a_function_may_be_called_like_a_taker(self):
        told = read("fun main (main num, f num) num = (call f f); fun f (f num) num = (let main f main)")
        self.assertEqual([function[0] for function in told], ["main", "f"])


class Blanks(unittest.TestCase):
    def test_blanks_and_line_feeds_where_there_may_be_some(self):
        told = read(TEXT)
        for gap in [tight, one_blank, lambda must: "\n", lambda must: " \n\n ", lambda must: "\n" if must else ""]:
            self.assertEqual(read(text_of(told, gap)), told)
        self.assertEqual(read("\n  " + TEXT + " \n"), told)

    def test_a_mark_parts_words_and_numbers(self):
        self.assertEqual(body_of("fun main()num=(plus(plus 1 2)(plus 3(plus 4 5)))"),
                         ("plus", ("plus", ("number", 1), ("number", 2)),
                          ("plus", ("number", 3), ("plus", ("number", 4), ("number", 5)))))


class Made(unittest.TestCase):
    def test_programs_of_all_sorts(self):
        sizes = set()
        mains = set()
        takers = set()
        words = set()
        for seed in range(400):
            program = program_made(seed)
            for gap in [tight, one_blank, any_gap(random.Random(seed))]:
                told = read(text_of(program, gap))
                self.assertEqual(told, program)
                self.assertTrue(all_whole(told))
            sizes.add(len(program))
            mains.add([function[0] for function in program].index("main"))
            takers |= {len(function[1]) for function in program}
            words |= all_words(program)
        self.assertEqual(sizes, {1, 2, 3, 4, 5, 6})
        self.assertEqual(mains, {0, 1, 2, 3, 4, 5})
        self.assertEqual(takers, {0, 1, 2, 3, 4})
        self.assertEqual(words, {"number", "name", "plus", "minus", "times", "less", "pair", "first", "second", "nil",
                                 "cons", "head", "tail", "none", "let", "if", "call"})


class AskersOwn(unittest.TestCase):
    def test_what_is_done_to_a_program_changes_no_later_answer(self):
        for seed in range(40):
            text = text_of(program_made(seed))
            first = read(text)
            second = read(text)
            spoilt(first)
            self.assertEqual(first, [])
            self.assertEqual(second, program_made(seed))
            self.assertEqual(read(text), program_made(seed))

    def test_each_list_is_a_new_one(self):
        text = "fun main () num = 0; fun f () num = 1; fun g (x num) num = x; fun h (x num) num = x"
        lists = []
        for told in [read(text), read(text)]:
            lists += [told] + [function[1] for function in told]
        self.assertEqual(len({id(each) for each in lists}), 10)
        lists[1].append(("x", NUM))
        self.assertEqual([len(each) for each in lists], [4, 1, 0, 1, 1, 4, 0, 0, 1, 1])

    def test_pieces_of_the_helper_are_those_of_the_text(self):
        self.assertEqual(program_pieces(read("fun main (a num) num = a")),
                         ["fun", "main", "(", "a", "num", ")", "num", "=", "a"])


if __name__ == "__main__":
    unittest.main()
