"""Programs shown as texts, and parts counted: point 7 and the interface."""

import random
import unittest

from fieldgate.reading import read
from fieldgate.showing import parts, shown
from making import any_gap, count, inner, kept, program_made, text_of

NUM = ("num",)
SEVEN = ("pair", ("pair", NUM, NUM), ("pair", NUM, NUM))
ROWS = ("list", ("list", ("list", ("list", ("list", ("list", NUM))))))
GREAT = ("number", -(10 ** 30) + 1)


class Case(unittest.TestCase):
    def shows(self, program):
        before = kept(program)
        text = shown(program)
        self.assertEqual(program, before)
        self.assertIsInstance(text, str)
        self.assertLessEqual(len(text), 4000)
        self.assertEqual(read(text), program)
        self.assertEqual(read(shown(read(text))), program)
        return text


class Shown(Case):
    def test_made_programs(self):
        for seed in range(300):
            self.shows(program_made(seed))

    def test_programs_that_were_read(self):
        for seed in range(50):
            self.shows(read(text_of(program_made(seed), any_gap(random.Random(seed)))))

    def test_numbers(self):
        for number in [0, 1, -1, 10, -10, 10 ** 30 - 1, -(10 ** 30) + 1]:
            self.shows([("main", [("n", NUM)], NUM, ("number", number))])
            self.shows([("main", [("n", NUM)], NUM, ("plus", ("number", number), ("name", "n")))])
            self.shows([("main", [("n", NUM)], NUM, ("plus", ("name", "n"), ("number", number)))])

    def test_what_is_done_later_changes_no_answer(self):
        program = program_made(5)
        text = shown(program)
        program.reverse()
        self.assertEqual(read(shown(program)), program_made(5)[::-1])
        program.reverse()
        self.assertEqual(shown(program), text)


def bush(many, leaf):
    if many == 1:
        return leaf
    half = (many - 1) // 2
    left = half if half % 2 == 1 else half - 1
    return ("plus", bush(left, leaf), bush(many - 1 - left, leaf))


def calls(leaves):
    """Calls within calls, with all leaves as their parts: many signs for few parts."""
    if len(leaves) == 1:
        return leaves[0]
    quarter = (len(leaves) - 1) // 3 // 4
    cuts = [0] + [3 * (quarter * turn) + turn for turn in (1, 2, 3)] + [len(leaves)]
    return ("call", "functioa") + tuple(calls(leaves[cuts[turn]:cuts[turn + 1]]) for turn in range(4))


def of_4000_signs():
    """A program whose tightest text has just 4000 signs."""
    wide = [("abcdefg" + letter, SEVEN) for letter in "abcd"]
    others = [("functioa", [("abcdefg" + letter, NUM) for letter in "abcd"], NUM, ("number", 1))] + [
        ("functio" + letter, wide, SEVEN, ("name", "abcdefgd")) for letter in "bcde"]
    figures = 85 * 30
    while True:
        lengths = [figures // 85 + (1 if place < figures % 85 else 0) for place in range(85)]
        program = others + [("main", [], NUM, calls([("number", -(10 ** length) + 1) for length in lengths]))]
        if len(text_of(program)) <= 4000:
            return program
        figures -= 1


class AtTheBounds(Case):
    def test_as_many_parts_as_may_be(self):
        body = ("none", ("cons", bush(117, GREAT), ("nil", NUM)))
        self.assertEqual(parts(body), 120)
        self.shows([("main", [], NUM, body)])

    def test_as_many_brackets_as_may_be(self):
        body = GREAT
        for turn in range(10):
            body = ("times", body, GREAT) if turn % 2 else ("times", GREAT, body)
        self.shows([("main", [("abcdefgh", NUM)], NUM, body)])
        body = ("nil", ROWS)
        for turn in range(8):
            body = ("tail", body)
        self.shows([("main", [], ("list", NUM), ("nil", NUM)), ("f", [], NUM, ("none", body))])

    def test_kinds_of_seven_words(self):
        for kind in [SEVEN, ROWS, ("pair", NUM, ("pair", NUM, ("pair", NUM, NUM))),
                     ("pair", ("pair", ("pair", NUM, NUM), NUM), NUM), ("list", ("list", ("pair", NUM, ("list", ("list", NUM)))))]:
            takers = [("abcdefg" + letter, kind) for letter in "abcd"]
            self.shows([("main", [], NUM, ("none", ("nil", kind)))] + [
                ("functio" + letter, takers, kind, ("name", "abcdefga")) for letter in "abcde"])

    def test_not_a_sign_to_spare(self):
        program = of_4000_signs()
        self.assertEqual(len(text_of(program)), 4000)
        self.assertEqual(sum(parts(function[3]) for function in program), 118)
        self.assertEqual(read(text_of(program)), program)
        self.shows(program)


class Parts(unittest.TestCase):
    def test_each_form(self):
        a = ("name", "a")
        one = ("number", 1)
        for part, many in [
                (a, 1), (one, 1), (("nil", NUM), 1), (("nil", SEVEN), 1), (("nil", ("pair", NUM, NUM)), 1),
                (("plus", a, one), 3), (("minus", a, one), 3), (("times", a, one), 3), (("less", a, one), 3),
                (("pair", a, one), 3), (("first", a), 2), (("second", a), 2), (("cons", a, ("nil", NUM)), 3),
                (("head", a), 2), (("tail", a), 2), (("none", a), 2), (("let", "x", a, one), 3),
                (("if", a, one, a), 4), (("call", "f"), 1), (("call", "f", a), 2), (("call", "f", a, a, a, a), 5),
                (("let", "plus", ("plus", a, one), ("if", a, ("first", ("pair", a, a)), ("call", "f", ("none", a)))), 13)]:
            with self.subTest(part):
                before = kept(part)
                self.assertEqual(parts(part), many)
                self.assertEqual(part, before)

    def test_all_parts_of_made_programs(self):
        for seed in range(60):
            todo = [function[3] for function in program_made(seed)]
            while todo:
                part = todo.pop()
                self.assertEqual(parts(part), count(part))
                todo += inner(part)


if __name__ == "__main__":
    unittest.main()
