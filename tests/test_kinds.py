"""The kinds of parts: point 6."""

import unittest

from fieldgate.errors import GateError, NoKind
from fieldgate.kinds import kind_of, look_over
from fieldgate.reading import read
from making import doubling, inner, kept, program_made

NUM = ("num",)
NUMS = ("list", NUM)
LISTS = ("list", NUMS)
BOTH = ("pair", NUM, NUM)
MIXED = ("pair", NUMS, NUM)
PAIRS = ("list", BOTH)
NAMES = {"n": NUM, "l": NUMS, "m": LISTS, "p": BOTH, "q": MIXED, "s": PAIRS}
PROGRAM = [
    ("main", [("a", NUM), ("b", NUM)], NUM, ("number", 1)),
    ("none", [], MIXED, ("call", "none")),
    ("one", [("a", NUMS)], BOTH, ("call", "one", ("name", "a"))),
    ("four", [("a", NUM), ("b", NUMS), ("c", BOTH), ("d", MIXED)], LISTS, ("nil", NUMS)),
]


def of(*names):
    return tuple(("name", name) for name in names)


def wanted(word, kinds):
    """What point 6 says of a part with a word, by the kinds of its parts; None where they do not fit."""
    if word in ("plus", "minus", "times", "less"):
        return NUM if kinds == [NUM, NUM] else None
    if word == "pair":
        return ("pair",) + tuple(kinds)
    if word == "cons":
        return kinds[1] if kinds[1] == ("list", kinds[0]) else None
    if word == "if":
        return kinds[1] if kinds[0] == NUM and kinds[1] == kinds[2] else None
    return {
        ("first", BOTH): NUM, ("first", MIXED): NUMS, ("second", BOTH): NUM, ("second", MIXED): NUM,
        ("head", NUMS): NUM, ("head", LISTS): NUMS, ("head", PAIRS): BOTH,
        ("tail", NUMS): NUMS, ("tail", LISTS): LISTS, ("tail", PAIRS): PAIRS,
        ("none", NUMS): NUM, ("none", LISTS): NUM, ("none", PAIRS): NUM,
    }.get((word, kinds[0]))


class Case(unittest.TestCase):
    def kind(self, part, names=NAMES):
        before = kept((PROGRAM, names, part))
        try:
            return kind_of(PROGRAM, names, part)
        finally:
            self.assertEqual((PROGRAM, names, part), before)

    def refused(self, part, names=NAMES):
        with self.subTest(part):
            with self.assertRaises(NoKind) as caught:
                self.kind(part, names)
            self.assertIs(type(caught.exception), NoKind)

    def fits(self, part, kind):
        with self.subTest(part):
            if kind is None:
                self.refused(part)
            else:
                self.assertEqual(self.kind(part), kind)


class Words(Case):
    def test_numbers_names_and_nil(self):
        self.assertEqual(self.kind(("number", 5)), NUM)
        for name in NAMES:
            self.assertEqual(self.kind(("name", name)), NAMES[name])
            self.assertEqual(self.kind(("nil", NAMES[name])), ("list", NAMES[name]))

    def test_words_of_one_part(self):
        for word in ["first", "second", "head", "tail", "none"]:
            for name in NAMES:
                self.fits((word,) + of(name), wanted(word, [NAMES[name]]))

    def test_words_of_two_parts(self):
        for word in ["plus", "minus", "times", "less", "pair", "cons"]:
            for first in NAMES:
                for second in NAMES:
                    self.fits((word,) + of(first, second), wanted(word, [NAMES[first], NAMES[second]]))

    def test_if(self):
        for first in NAMES:
            for second in NAMES:
                for third in NAMES:
                    kinds = [NAMES[first], NAMES[second], NAMES[third]]
                    self.fits(("if",) + of(first, second, third), wanted("if", kinds))

    def test_let(self):
        for first in NAMES:
            for second in NAMES:
                self.fits(("let", "x") + of(first, second), NAMES[second])
            self.fits(("let", "x") + of(first, "x"), NAMES[first])

    def test_a_fault_deep_within(self):
        fault = ("plus", ("number", 1), ("nil", NUM))
        for part in [("plus", fault, ("number", 1)), ("minus", ("number", 1), fault), ("pair", fault, ("number", 1)),
                     ("pair", ("number", 1), fault), ("cons", fault, ("nil", NUM)), ("if", fault) + of("n", "n"),
                     ("if",) + of("n") + (fault,) + of("n"), ("if",) + of("n", "n") + (fault,),
                     ("let", "x", fault) + of("n"), ("let", "x") + of("n") + (fault,), ("call", "main", fault) + of("n"),
                     ("call", "main") + of("n") + (fault,), ("none", ("cons", fault, ("nil", NUM))),
                     ("first", ("pair", fault, fault)), ("head", ("cons", fault, ("nil", NUM))),
                     ("second", ("pair", ("number", 1), fault)), ("tail", ("cons", fault, ("nil", NUM)))]:
            self.refused(part)


class Lets(Case):
    def test_the_nearest_let_hides_the_others(self):
        x = ("name", "x")
        self.assertEqual(self.kind(("let", "x") + of("l") + (("let", "x") + of("p") + (x,),)), BOTH)
        self.assertEqual(self.kind(("let", "x") + of("m") + (("let", "x", ("head", x), x),)), NUMS)
        self.assertEqual(self.kind(("let", "x") + of("l") + (("let", "y") + of("p") + (x,),)), NUMS)

    def test_a_let_hides_a_taker(self):
        self.assertEqual(self.kind(("let", "n") + of("l", "n")), NUMS)
        self.assertEqual(self.kind(("let", "n", ("cons", ("name", "n"), ("nil", NUM)), ("name", "n"))), NUMS)
        self.refused(("let", "n") + of("l") + (("plus",) + of("n", "n"),))

    def test_a_let_is_over_behind_its_b(self):
        let = ("let", "n") + of("l") + (("head", ("name", "n")),)
        self.assertEqual(self.kind(("plus", let, ("name", "n"))), NUM)
        self.assertEqual(self.kind(("pair", ("let", "n") + of("l", "n"), ("name", "n"))), ("pair", NUMS, NUM))
        self.assertEqual(self.kind(("let", "x", ("let", "n") + of("l", "n"), ("name", "n"))), NUM)

    def test_in_whole_programs(self):
        self.assertEqual(len(read("fun main (n num) list num = (let n (cons n (nil num)) (let n (pair n 1) (first n)))")), 1)
        with self.assertRaises(NoKind):
            read("fun main (n num) num = (let n (cons n (nil num)) n)")


class Calls(Case):
    def test_what_the_function_gives(self):
        self.assertEqual(self.kind(("call", "main") + of("n", "n")), NUM)
        self.assertEqual(self.kind(("call", "none")), MIXED)
        self.assertEqual(self.kind(("call", "one") + of("l")), BOTH)
        self.assertEqual(self.kind(("call", "four") + of("n", "l", "p", "q")), LISTS)
        self.assertEqual(self.kind(("call", "four", ("number", 1), ("nil", NUM)) + of("p") + (("call", "none"),)), LISTS)

    def test_more_and_fewer_parts(self):
        for name, right in [("main", "nn"), ("none", ""), ("one", "l"), ("four", "nlpq")]:
            for less in range(len(right)):
                self.refused(("call", name) + of(*right[:less]))
                self.refused(("call", name) + of(*right[less + 1:]))
            for more in "nlpq":
                self.refused(("call", name) + of(*right) + of(more))
                self.refused(("call", name) + of(more) + of(*right))

    def test_parts_of_other_kinds(self):
        for name, right in [("main", "nn"), ("one", "l"), ("four", "nlpq")]:
            for place in range(len(right)):
                for other in NAMES:
                    if NAMES[other] != NAMES[right[place]]:
                        self.refused(("call", name) + of(*(right[:place] + other + right[place + 1:])))
        self.refused(("call", "four") + of("l", "n", "p", "q"))


class Programs(unittest.TestCase):
    def refused(self, text):
        with self.subTest(text):
            with self.assertRaises(GateError) as caught:
                read(text)
            self.assertIs(type(caught.exception), NoKind)

    def test_a_body_is_of_the_kind_that_its_function_gives(self):
        self.assertEqual(len(read("fun main () list num = (nil num)")), 1)
        self.refused("fun main () num = (nil num)")
        self.refused("fun main () list num = 1")
        self.refused("fun main () num = 1; fun f (x list num) list list num = x")
        self.refused("fun f (x list num) list list num = x; fun main () num = 1")
        self.refused("fun main () pair num list num = (pair (nil num) 1)")

    def test_takers_of_main(self):
        self.assertEqual(len(read("fun main (a num, b num) num = 1; fun f (a list num) num = 1")), 2)
        self.refused("fun main (a list num) num = 1")
        self.refused("fun f (a list num) num = 1; fun main (a num, b num, c num, d pair num num) num = 1")
        self.refused("fun main (a num, b list num, c num) num = 1")

    def test_functions_that_main_does_not_call(self):
        self.refused("fun main () num = 1; fun f () num = (plus 1 (nil num))")
        self.refused("fun main () num = 1; fun f () num = (call f 1)")

    def test_kinds_of_a_great_length(self):
        """A kind may have words by the hundreds of millions; no refusal writes them out."""
        for many in (16, 28):
            for body in ["(plus 1 PART)", "(head PART)", "(if 1 1 PART)", "(call main PART)", "PART"]:
                with self.assertRaises(NoKind) as caught:
                    read(f"fun main (x num) num = {body.replace('PART', doubling(many))}")
                self.assertLess(len(str(caught.exception)), 1000)
            self.assertEqual(len(read(f"fun main (x num) num = (let y {doubling(many)} 0)")), 1)

    def test_each_part_of_made_programs(self):
        """Every part within has a kind, and putting one of another kind in a body's place is refused."""
        for seed in range(100):
            program = program_made(seed)
            for place, (name, takers, kind, body) in enumerate(program):
                self.assertEqual(kind_of(program, dict(takers), body), kind)
                other = ("nil", kind)
                spoilt = program[:place] + [(name, takers, kind, other)] + program[place + 1:]
                with self.assertRaises(NoKind):
                    look_over(spoilt)
                if body[0] != "let":
                    for within in inner(body):
                        self.assertIn(kind_of(program, dict(takers), within)[0], ("num", "list", "pair"))
            self.assertEqual(program, program_made(seed))


if __name__ == "__main__":
    unittest.main()
