"""The machine, with codes written by hand: points 15 to 17."""

import random
import unittest

from fieldgate.errors import Empty, GateError, Gone, TooDeep, TooGreat, TooLong
from fieldgate.machine import run
from making import all_whole, kept, spoilt

BIG = 10 ** 60 - 1
BACK = ("back",)
PAIR = ("pair", 0)
CONS = ("cons", 0)
NIL = ("nil",)
KEEP = ("keep",)
DROP = ("drop",)
OPEN = ("open",)
SHUT = ("shut",)


def number(n):
    return ("number", n)


def local(i):
    return ("local", i)


def coded_by_hand(lines, outer=0):
    """A code of rows and, as texts, labels, which stand for the row behind them; it begins at main, or at row 0."""
    labels = {}
    rows = []
    for line in lines:
        if isinstance(line, str):
            labels[line] = len(rows)
        else:
            rows.append(line)
    return ([tuple(labels[each] if place == 1 and isinstance(each, str) else each for place, each in enumerate(row))
             for row in rows], labels.get("main", 0), outer)


# Comes to 7 by n calls, each within the one ahead; n is the local.
CHAIN = ["chain", local(0), ("unless", "end"), local(0), number(1), ("minus",), ("call", "chain", 1, ()), BACK,
         "end", number(7), BACK]
# Comes to 5 by n calls one behind the other.
LOOP = ["main", number(5), "again", local(0), ("unless", "end"), ("call", "one", 0, ()), KEEP, DROP,
        local(0), number(1), ("minus",), DROP, KEEP, ("jump", "again"), "end", BACK, "one", number(1), BACK]


def list_of(many, field=0):
    """Rows that lay a list of so many members."""
    return [number(n) for n in range(many)] + [NIL] + [("cons", field)] * many


class Case(unittest.TestCase):
    def run_code(self, code, numbers, most):
        before = kept((code, numbers))
        try:
            return run(code, numbers, *most)
        finally:
            self.assertEqual((code, numbers), before)

    def gives(self, lines, value, log=None, outer=0, numbers=(), most=()):
        code = coded_by_hand(lines, outer)
        with self.subTest(lines, numbers=numbers, most=most):
            found = self.run_code(code, list(numbers), most)
            self.assertIs(type(found), tuple)
            self.assertEqual(len(found), 2)
            self.assertIs(type(found[1]), list)
            self.assertTrue(all_whole(found))
            self.assertEqual(found[0], value)
            self.assertIs(type(found[0]), type(value))
            if log is not None:
                self.assertEqual(found[1], log)

    def refuses(self, lines, error, outer=0, numbers=(), most=()):
        code = coded_by_hand(lines, outer)
        with self.subTest(lines, numbers=numbers, most=most):
            with self.assertRaises(error) as caught:
                self.run_code(code, list(numbers), most)
            self.assertIs(type(caught.exception), error)


class Rows(Case):
    def test_number(self):
        for n in (0, 1, -1, 12, BIG, -BIG):
            self.gives([number(n), BACK], n, [])

    def test_local(self):
        for i, n in enumerate((4, -5, 6)):
            self.gives([local(i), BACK], n, [], numbers=(4, -5, 6))

    def test_keep(self):
        self.gives([number(3), number(9), KEEP, BACK], 3, [], numbers=(1, 2))
        self.gives([number(9), KEEP, local(2), BACK], 9, [], numbers=(1, 2))
        self.gives([number(9), KEEP, local(0), BACK], 1, [], numbers=(1, 2))
        self.gives([number(8), number(9), KEEP, KEEP, local(0), local(1), ("minus",), BACK], 1, [])

    def test_drop(self):
        self.gives([number(9), KEEP, number(8), KEEP, DROP, number(7), KEEP, local(1), BACK], 7, [])
        self.gives([number(9), KEEP, number(8), KEEP, DROP, local(0), BACK], 9, [])
        self.gives([DROP, number(8), KEEP, local(1), BACK], 8, [], numbers=(1, 2))
        self.gives([DROP, DROP, number(8), KEEP, local(0), BACK], 8, [], numbers=(1, 2))

    def test_reckoning(self):
        for a in (-7, -1, 0, 1, 2, 9):
            for b in (-8, -1, 0, 1, 2, 9):
                for word, n in (("plus", a + b), ("minus", a - b), ("times", a * b), ("less", 1 if a < b else 0)):
                    self.gives([number(a), number(b), (word,), BACK], n, [])
        # What lies under the two stays.
        for word, n in (("plus", 7), ("minus", 1), ("times", 12), ("less", 0)):
            self.gives([number(100), number(4), number(3), (word,), ("minus",), BACK], 100 - n, [])

    def test_pair(self):
        rows = [number(1), number(2), PAIR, BACK]
        self.gives(rows, (1, 2), [("open", 0), ("lay", 0), ("shut", 0)], outer=1)
        self.gives([number(1), number(2), number(3), ("pair", 1), ("pair", 0), BACK], (1, (2, 3)),
                   [("open", 0), ("open", 1), ("lay", 1), ("lay", 0), ("shut", 1), ("shut", 0)], outer=2)
        self.gives([NIL, NIL, PAIR, BACK], ([], []), outer=1)

    def test_cons(self):
        self.gives([number(1), NIL, CONS, BACK], [1], [("open", 0), ("lay", 0), ("shut", 0)], outer=1)
        self.gives([number(1), number(2), NIL, ("cons", 2), ("cons", 0), BACK], [1, 2],
                   [("open", 0), ("open", 1), ("open", 2), ("lay", 2), ("lay", 0), ("shut", 2), ("shut", 1), ("shut", 0)],
                   outer=3)
        self.gives([NIL, NIL, CONS, BACK], [[]], outer=1)

    def test_looks(self):
        log = [("open", 0), ("open", 1), ("lay", 1), ("look", 1), ("shut", 1), ("shut", 0)]
        for word, value in (("first", 3), ("second", 4)):
            self.gives([number(3), number(4), ("pair", 1), (word,), BACK], value, log, outer=2)
        self.gives([number(3), NIL, ("cons", 1), ("head",), BACK], 3, log, outer=2)
        self.gives([number(3), NIL, ("cons", 1), ("tail",), BACK], [], log, outer=2)
        # The field is the one in which the looked-at cell lies, not that of the cell behind it.
        log = [("open", 0), ("open", 1), ("lay", 0), ("lay", 1), ("look", 1), ("shut", 1), ("shut", 0)]
        self.gives([number(1), number(2), NIL, ("cons", 0), ("cons", 1), ("tail",), BACK], [2], log, outer=2)
        self.gives([number(1), number(2), ("pair", 0), number(3), ("pair", 1), ("first",), BACK], (1, 2), log, outer=2)
        self.gives([number(3), number(1), number(2), ("pair", 0), ("pair", 1), ("second",), BACK], (1, 2), log, outer=2)
        self.gives([number(1), number(2), ("pair", 0), NIL, ("cons", 1), ("head",), BACK], (1, 2), log, outer=2)

    def test_nil(self):
        self.gives([NIL, BACK], [], [])

    def test_none(self):
        self.gives([NIL, ("none",), BACK], 1, [])
        for n in (0, 1, -3):
            self.gives([number(n), ("none",), BACK], 0, [])
        log = [("open", 0), ("lay", 0), ("shut", 0)]
        self.gives([number(0), number(0), PAIR, ("none",), BACK], 0, log, outer=1)
        self.gives([number(0), NIL, CONS, ("none",), BACK], 0, log, outer=1)
        self.gives([NIL, NIL, CONS, ("none",), BACK], 0, log, outer=1)
        self.gives([number(7), NIL, ("none",), ("minus",), BACK], 6, [])

    def test_open_and_shut(self):
        self.gives([number(1), OPEN, SHUT, BACK], 1, [("open", 0), ("shut", 0)])
        self.gives([OPEN, OPEN, SHUT, OPEN, SHUT, SHUT, number(1), BACK], 1,
                   [("open", 0), ("open", 1), ("shut", 1), ("open", 2), ("shut", 2), ("shut", 0)])
        # The frame's fields are the outer ones and then those that it opened, without the shut ones.
        self.gives([OPEN, OPEN, SHUT, OPEN, number(1), number(2), ("pair", 2), ("first",), number(3), number(4),
                    ("pair", 1), ("first",), number(5), number(6), ("pair", 0), KEEP, ("plus",), SHUT, SHUT, BACK], 4,
                   [("open", 0), ("open", 1), ("open", 2), ("shut", 2), ("open", 3), ("lay", 3), ("look", 3), ("lay", 1),
                    ("look", 1), ("lay", 0), ("shut", 3), ("shut", 1), ("shut", 0)], outer=1)

    def test_jump(self):
        self.gives([("jump", "end"), number(1), BACK, "end", number(2), BACK], 2, [])
        self.gives(["back", number(2), BACK, "main", ("jump", "back"), number(3), BACK], 2, [])

    def test_unless(self):
        rows = [local(0), ("unless", "end"), number(1), BACK, "end", number(2), BACK]
        for n, value in ((0, 2), (1, 1), (-1, 1), (BIG, 1)):
            self.gives(rows, value, [], numbers=(n,))
        # The value goes either way.
        for n in (0, 1):
            self.gives([number(9), local(0), ("unless", "end"), "end", BACK], 9, [], numbers=(n,))

    def test_call_and_back(self):
        self.gives(["main", ("call", "f", 0, ()), number(1), ("plus",), BACK, "f", number(4), BACK], 5, [])
        self.gives(["f", local(0), local(1), ("minus",), BACK,
                    "main", number(100), number(9), number(4), ("call", "f", 2, ()), ("plus",), BACK], 105, [])
        # The lowest of the values is the first local, and there are no others.
        for i in range(4):
            self.gives(["f", local(i), BACK, "main", number(1), number(2), number(3), number(4), number(5),
                        ("call", "f", 4, ()), KEEP, KEEP, local(1), BACK], i + 2, numbers=(0,))
        self.gives(["f", number(7), KEEP, local(1), BACK, "main", number(4), ("call", "f", 1, ()), BACK], 7, numbers=(1, 2))
        # A call of no values, where values lie.
        self.gives(["main", number(1), number(2), ("call", "f", 0, ()), ("minus",), ("minus",), BACK,
                    "f", number(10), KEEP, local(0), BACK], 1 - (2 - 10))

    def test_the_callers_locals_stay(self):
        self.gives(["main", number(1), KEEP, number(5), ("call", "f", 1, ()), local(0), ("minus",), BACK,
                    "f", DROP, number(6), KEEP, number(7), KEEP, local(0), BACK], 5)

    def test_calls_within_calls(self):
        self.gives(["main", local(0), ("call", "f", 1, ()), BACK,
                    "f", local(0), ("call", "g", 1, ()), number(10), ("times",), local(0), ("plus",), BACK,
                    "g", local(0), number(1), ("plus",), ("call", "h", 1, ()), local(0), ("minus",), BACK,
                    "h", local(0), local(0), ("times",), BACK], (16 - 3) * 10 + 3, [], numbers=(3,))

    def test_a_call_of_the_row_at_which_the_run_began(self):
        self.gives(["main", local(0), ("unless", "end"), number(0), ("call", "main", 1, ()), local(0), ("plus",), BACK,
                    "end", number(7), BACK], 11, [], numbers=(4,))

    def test_a_calls_fields(self):
        # The frame of f has fields 2 and 0 of the caller's, then its own.
        self.gives(["main", OPEN, ("call", "f", 0, (2, 0)), SHUT, BACK,
                    "f", number(1), number(2), ("pair", 0), ("first",), OPEN, number(3), NIL, ("cons", 2), ("head",), SHUT,
                    ("plus",), NIL, ("cons", 1), BACK], [4],
                   [("open", 0), ("open", 1), ("open", 2), ("lay", 2), ("look", 2), ("open", 3), ("lay", 3), ("look", 3),
                    ("shut", 3), ("lay", 0), ("shut", 2), ("shut", 1), ("shut", 0)], outer=2)

    def test_a_field_may_be_handed_on_twice(self):
        self.gives(["main", ("call", "f", 0, (0, 1, 0, 1)), BACK,
                    "f", number(1), number(2), number(3), number(4), number(5),
                    ("pair", 3), ("pair", 2), ("pair", 1), ("pair", 0), BACK], (1, (2, (3, (4, 5)))),
                   [("open", 0), ("open", 1), ("lay", 1), ("lay", 0), ("lay", 1), ("lay", 0), ("shut", 1), ("shut", 0)],
                   outer=2)

    def test_fields_through_calls_within_calls(self):
        # g's number 0 is f's 1, which is main's 2; what f opens is its number 2, and no field of main's frame.
        self.gives(["main", ("call", "f", 0, (0, 2)), number(9), ("pair", 1), BACK,
                    "f", OPEN, ("call", "g", 0, (1, 2)), SHUT, BACK,
                    "g", number(1), number(2), ("pair", 1), ("second",), number(3), ("pair", 0), BACK], ((2, 3), 9),
                   [("open", 0), ("open", 1), ("open", 2), ("open", 3), ("lay", 3), ("look", 3), ("lay", 2), ("shut", 3),
                    ("lay", 1), ("shut", 2), ("shut", 1), ("shut", 0)], outer=3)

    def test_the_callers_list_of_fields_stays(self):
        # What f opens and shuts is not the caller's; the caller's own last field is its number 1 still.
        self.gives(["main", OPEN, ("call", "f", 0, (1,)), NIL, ("cons", 1), ("head",), SHUT, BACK,
                    "f", OPEN, OPEN, SHUT, SHUT, number(4), BACK], 4,
                   [("open", 0), ("open", 1), ("open", 2), ("open", 3), ("shut", 3), ("shut", 2), ("lay", 1), ("look", 1),
                    ("shut", 1), ("shut", 0)], outer=1)

    def test_a_callers_field_that_the_call_shuts(self):
        self.gives(["main", OPEN, OPEN, ("call", "f", 0, (0, 1)), BACK, "f", SHUT, SHUT, number(4), BACK], 4,
                   [("open", 0), ("open", 1), ("shut", 1), ("shut", 0)])

    def test_begin(self):
        for begin, value in ((0, 1), (2, 2), (4, 3)):
            code = ([number(1), BACK, number(2), BACK, number(3), BACK], begin, 0)
            self.assertEqual(run(code, []), (value, []))

    def test_together(self):
        # Lays the numbers from 1 to n by a loop and adds them up by calls, each with a pair in a field of its own.
        lines = ["sum", local(0), ("none",), ("unless", "more"), number(0), BACK,
                 "more", OPEN, local(0), ("tail",), local(0), ("head",), ("pair", 1), KEEP,
                 local(1), ("second",), local(1), ("first",), ("call", "sum", 1, (0,)), ("plus",), DROP, SHUT, BACK,
                 "main", NIL, "again", local(0), ("unless", "end"), KEEP, local(0), local(1), CONS, DROP,
                 local(0), number(1), ("minus",), DROP, KEEP, ("jump", "again"), "end", ("call", "sum", 1, (0,)), BACK]
        for n in range(12):
            log = [("open", 0)] + [("lay", 0)] * n
            for field in range(1, n + 1):
                log += [("open", field), ("look", 0), ("look", 0), ("lay", field), ("look", field), ("look", field)]
            log += [("shut", field) for field in range(n, -1, -1)]
            self.gives(lines, n * (n + 1) // 2, log, outer=1, numbers=(n,))
        self.refuses(lines, TooDeep, outer=1, numbers=(12,))


class Telling(Case):
    def test_pairs_and_lists(self):
        self.gives([number(1), NIL, CONS, number(2), number(3), PAIR, PAIR, BACK], ([1], (2, 3)), outer=1)
        self.gives([number(1), number(2), PAIR, number(3), number(4), PAIR, NIL, CONS, CONS, BACK], [(1, 2), (3, 4)], outer=1)
        self.gives([number(1), NIL, CONS, NIL, CONS, NIL, CONS, BACK], [[[1]]], outer=1)
        self.gives([NIL, NIL, NIL, CONS, CONS, BACK], [[], []], outer=1)
        self.gives([NIL, number(0), PAIR, BACK], ([], 0), outer=1)
        # A list and a pair of the same values.
        self.gives([number(5), NIL, CONS, BACK], [5], outer=1)
        self.gives([number(5), NIL, PAIR, BACK], (5, []), outer=1)

    def test_the_outer_fields_are_shut_the_last_one_first(self):
        for outer in range(6):
            fields = list(range(outer))
            self.gives([number(1), BACK], 1, [("open", field) for field in fields]
                       + [("shut", field) for field in reversed(fields)], outer=outer)

    def test_telling_is_not_in_the_log(self):
        rows = list_of(5) + [BACK]
        self.gives(rows, [0, 1, 2, 3, 4], [("open", 0)] + [("lay", 0)] * 5 + [("shut", 0)], outer=1)

    def test_each_list_is_a_new_one_at_its_own_place(self):
        code = coded_by_hand([number(1), NIL, CONS, KEEP, local(0), local(0), PAIR, NIL, NIL, PAIR, PAIR, BACK], 1)
        value, log = run(code, [])
        self.assertEqual(value, (([1], [1]), ([], [])))
        lists = [value[0][0], value[0][1], value[1][0], value[1][1], log]
        self.assertEqual(len({id(each) for each in lists}), 5)
        value[0][0].append("spoilt")
        self.assertEqual(value[0][1], [1])

    def test_what_was_told_is_spoilt(self):
        code = coded_by_hand(list_of(3) + [KEEP, local(0), local(0), CONS, BACK], 1)
        wanted = run(code, [])
        for turn in range(3):
            found = run(code, [])
            self.assertEqual(found, wanted)
            spoilt(found)

    def test_what_was_handed_in_is_changed_later(self):
        code = coded_by_hand([local(0), NIL, CONS, KEEP, local(1), BACK], 1)
        numbers = [4]
        found = run(code, numbers)
        numbers.clear()
        code[0].clear()
        self.assertEqual(found, ([4], [("open", 0), ("lay", 0), ("shut", 0)]))

    def test_after_a_refusal(self):
        code = coded_by_hand([local(0), ("unless", "bad"), number(1), number(2), PAIR, BACK, "bad", NIL, ("head",), BACK], 1)
        wanted = run(code, [1])
        with self.assertRaises(Empty):
            run(code, [0])
        self.assertEqual(run(code, [1]), wanted)

    def test_a_hundred_within_one_another(self):
        pairs = lists = 0
        for turn in range(100):
            pairs = (turn, pairs)
            lists = [lists]
        self.gives([number(turn) for turn in range(99, -1, -1)] + [number(0)] + [PAIR] * 100 + [BACK], pairs, outer=1)
        self.gives([number(0)] + [NIL, CONS] * 100 + [BACK], lists, outer=1)
        first = 0
        for turn in range(100):
            first = (first, turn)
        self.gives([number(0)] + [row for turn in range(100) for row in (number(turn), PAIR)] + [BACK], first, outer=1)


class Refusals(Case):
    def test_numbers_of_60_and_61_figures(self):
        for a, b, word in ((BIG, 0, "plus"), (BIG - 1, 1, "plus"), (-BIG, 0, "minus"), (1 - BIG, 1, "minus"), (BIG, 1, "times"),
                           (BIG, -1, "times"), (10 ** 30, 10 ** 29, "times"), (-BIG, -1, "times")):
            value = {"plus": a + b, "minus": a - b, "times": a * b}[word]
            self.gives([number(a), number(b), (word,), BACK], value)
        for a, b, word in ((BIG, 1, "plus"), (-BIG, -1, "plus"), (-BIG, 1, "minus"), (BIG, -1, "minus"), (BIG, BIG, "plus"),
                           (10 ** 30, 10 ** 30, "times"), (-10 ** 30, 10 ** 30, "times"), (BIG, 2, "times")):
            self.refuses([number(a), number(b), (word,), BACK], TooGreat)

    def test_no_other_row_is_refused_for_a_number(self):
        self.gives([number(BIG), number(-BIG), ("less",), BACK], 0)
        self.gives([number(-BIG), number(BIG), PAIR, BACK], (-BIG, BIG), outer=1)

    def test_a_list_of_a_great_size(self):
        self.gives(list_of(499) + [BACK], list(range(499)), outer=1)
        self.refuses(list_of(500) + [BACK], TooGreat, outer=1)
        # The value needs not be told.
        self.refuses(list_of(500) + [("none",), BACK], TooGreat, outer=1)
        self.gives(list_of(499) + [("tail",), number(1), ("none",), KEEP, ("none",), BACK], 0, outer=1)

    def test_a_pair_of_a_great_size(self):
        # 499 and 499 and 1 are 999, and 2 more are beyond.
        self.gives(list_of(249) + list_of(249) + [PAIR, BACK], (list(range(249)), list(range(249))), outer=1)
        self.refuses(list_of(250) + list_of(249) + [PAIR, BACK], TooGreat, outer=1)
        self.refuses(list_of(249) + list_of(250) + [PAIR, BACK], TooGreat, outer=1)
        self.refuses(list_of(249) + list_of(250) + [CONS, BACK], TooGreat, outer=1)
        self.refuses(list_of(499) + [KEEP, local(0), local(0), PAIR, ("none",), BACK], TooGreat, outer=1)

    def test_a_size_counts_what_lies_in_shut_fields(self):
        shut = [OPEN] + list_of(499, 1) + [SHUT, KEEP]
        self.refuses(shut + [number(1), local(0), PAIR, ("first",), BACK], TooGreat, outer=1)
        shut = [OPEN] + list_of(498, 1) + [SHUT, KEEP]
        self.gives(shut + [number(1), local(0), PAIR, ("first",), BACK], 1, outer=1)

    def test_empty(self):
        for word in ("head", "tail"):
            self.refuses([NIL, (word,), BACK], Empty)
            self.refuses([number(1), NIL, CONS, ("tail",), (word,), BACK], Empty, outer=1)

    def test_too_long(self):
        self.gives([number(1), BACK], 1, most=(0,))
        self.gives(LOOP, 5, numbers=(0,), most=(0,))
        self.refuses(LOOP, TooLong, numbers=(1,), most=(0,))
        for most in (1, 2, 13, 200, 400):
            self.gives(LOOP, 5, [], numbers=(most,), most=(most,))
            self.refuses(LOOP, TooLong, numbers=(most + 1,), most=(most,))
        self.gives(LOOP, 5, numbers=(200,))
        self.refuses(LOOP, TooLong, numbers=(201,))
        code = coded_by_hand(LOOP)
        self.assertEqual(run(code, [400], most=400), (5, []))

    def test_too_deep(self):
        chain = ["main", ("jump", "chain")] + CHAIN
        for n in (0, 1, 11, 12):
            self.gives(chain, 7, [], numbers=(n,))
        for n in (13, 14, 100):
            self.refuses(chain, TooDeep, numbers=(n,))

    def test_too_long_comes_ahead_of_too_deep(self):
        chain = ["main", ("jump", "chain")] + CHAIN
        self.refuses(chain, TooLong, numbers=(13,), most=(12,))
        self.refuses(chain, TooDeep, numbers=(13,), most=(13,))
        self.gives(chain, 7, numbers=(12,), most=(12,))
        self.refuses(chain, TooLong, numbers=(12,), most=(11,))

    def test_calls_that_are_over_are_not_under_way(self):
        lines = ["main", local(0), ("call", "chain", 1, ()), local(1), ("call", "chain", 1, ()), ("plus",), BACK] + CHAIN
        self.gives(lines, 14, numbers=(11, 11))
        self.refuses(lines, TooDeep, numbers=(11, 12))
        self.refuses(lines, TooDeep, numbers=(12, 11))
        # 24 calls are begun.
        self.gives(lines, 14, numbers=(11, 11), most=(24,))
        self.refuses(lines, TooLong, numbers=(11, 11), most=(23,))

    def test_as_soon_as_the_run_comes_to_it(self):
        self.refuses([NIL, ("head",), number(BIG), number(BIG), ("plus",), BACK], Empty)
        self.refuses([number(BIG), number(BIG), ("plus",), NIL, ("head",), BACK], TooGreat)
        self.refuses(["main", NIL, ("head",), ("call", "main", 0, ()), BACK], Empty, most=(0,))


class Gones(Case):
    def laid(self, word):
        """A cell of field 1, which is shut by then, on the values."""
        return [OPEN, number(1), NIL, (word, 1), SHUT]

    def test_a_look_at_a_cell_of_a_shut_field(self):
        for word, looks in (("pair", ("first", "second")), ("cons", ("head", "tail"))):
            for look in looks:
                self.refuses(self.laid(word) + [(look,), BACK], Gone, outer=1)
                self.refuses(self.laid(word) + [(look,), KEEP, number(1), BACK], Gone, outer=1)
                # Another field in its place on the pile is another field.
                self.refuses(self.laid(word) + [OPEN, (look,), SHUT, BACK], Gone, outer=1)
                self.refuses(self.laid(word) + [OPEN, KEEP, number(2), NIL, (word, 1), KEEP, local(0), (look,), SHUT, BACK],
                             Gone, outer=1)

    def test_the_outer_fields_are_open_until_the_end(self):
        self.gives([number(1), number(2), PAIR, OPEN, SHUT, ("first",), BACK], 1, outer=1)

    def test_fields_that_are_open_under_a_shut_one(self):
        self.gives([OPEN, number(1), number(2), ("pair", 0), OPEN, SHUT, ("second",), SHUT, BACK], 2,
                   [("open", 0), ("lay", 0), ("open", 1), ("shut", 1), ("look", 0), ("shut", 0)])

    def test_a_look_in_a_call(self):
        self.refuses(["main"] + self.laid("pair") + [("call", "f", 1, ()), BACK, "f", local(0), ("first",), BACK], Gone, outer=1)
        # No field of the frame's, but open.
        self.gives(["main", number(1), number(2), PAIR, ("call", "f", 1, ()), BACK, "f", local(0), ("first",), BACK], 1,
                   [("open", 0), ("lay", 0), ("look", 0), ("shut", 0)], outer=1)
        # A cell that a call laid in a field of its own.
        self.refuses(["main", ("call", "f", 0, ()), ("first",), BACK, "f", OPEN, number(1), number(2), PAIR, SHUT, BACK], Gone)

    def test_a_cell_laid_in_a_shut_field(self):
        for word in ("pair", "cons"):
            self.refuses(["main", OPEN, ("call", "f", 0, (0,)), NIL, (word, 0), KEEP, number(1), BACK,
                          "f", SHUT, number(1), BACK], Gone)
            # The same field by two numbers.
            self.refuses(["main", OPEN, ("call", "f", 0, (0, 0)), BACK,
                          "f", SHUT, number(1), NIL, (word, 0), ("none",), BACK], Gone)
            # With an open one on the pile's top.
            self.refuses(["main", OPEN, ("call", "f", 0, (0,)), OPEN, NIL, (word, 0), ("none",), SHUT, BACK,
                          "f", SHUT, number(1), BACK], Gone)
            self.gives(["main", OPEN, ("call", "f", 0, (0,)), OPEN, NIL, (word, 1), ("none",), SHUT, BACK,
                        "f", SHUT, number(1), BACK], 0, [("open", 0), ("shut", 0), ("open", 1), ("lay", 1), ("shut", 1)])

    def test_too_great_comes_ahead(self):
        lines = ["main", OPEN, ("call", "f", 0, (1,)), KEEP]
        behind = [BACK, "f", SHUT, number(1), BACK]
        for word in ("pair", "cons"):
            self.refuses(lines + [number(0)] + list_of(499) + [(word, 1), ("none",)] + behind, TooGreat, outer=1)
            self.refuses(lines + [number(0)] + list_of(498) + [(word, 1), ("none",)] + behind, Gone, outer=1)

    def test_empty_is_not_gone(self):
        self.refuses([OPEN, NIL, SHUT, ("head",), BACK], Empty)
        self.refuses([OPEN, NIL, SHUT, ("tail",), BACK], Empty)

    def test_in_the_value_that_is_told(self):
        for word in ("pair", "cons"):
            cell = self.laid(word)
            self.refuses(cell + [BACK], Gone, outer=1)
            self.refuses(cell + [number(1), PAIR, BACK], Gone, outer=1)
            self.refuses([number(1)] + cell + [PAIR, BACK], Gone, outer=1)
            self.refuses(cell + [NIL, CONS, BACK], Gone, outer=1)
            self.refuses([number(1)] + cell + [NIL, CONS, CONS, BACK], Gone, outer=1)
            self.refuses(cell + [number(1), PAIR, number(2), PAIR, NIL, CONS, BACK], Gone, outer=1)
        # The list's end lies in a shut field.
        self.refuses([number(1)] + self.laid("cons") + [CONS, BACK], Gone, outer=1)
        self.refuses([number(1), number(2), number(3)] + self.laid("cons") + [CONS] * 3 + [BACK], Gone, outer=1)

    def test_places_of_shut_fields_that_nothing_looks_at(self):
        log = [("open", 0), ("open", 1), ("lay", 1), ("shut", 1), ("lay", 0), ("look", 0), ("shut", 0)]
        self.gives(self.laid("pair") + [number(5), PAIR, ("second",), BACK], 5, log, outer=1)
        self.gives([number(5)] + self.laid("cons") + [CONS, ("head",), BACK], 5, log, outer=1)
        self.gives(self.laid("pair") + [("none",), BACK], 0, log[:4] + log[-1:], outer=1)
        self.gives(self.laid("cons") + [("none",), BACK], 0, outer=1)
        self.gives(self.laid("pair") + [KEEP, number(1), BACK], 1, outer=1)
        self.gives(["main"] + self.laid("pair") + [("call", "f", 1, ()), BACK, "f", number(1), BACK], 1, outer=1)

    def test_gone_behind_a_look(self):
        # The tail itself may be taken from an open cell, but not be looked at.
        shut = [number(1)] + self.laid("cons") + [CONS, ("tail",)]
        self.gives(shut + [("none",), BACK], 0, outer=1)
        self.refuses(shut + [("head",), BACK], Gone, outer=1)
        self.refuses(shut + [BACK], Gone, outer=1)


class Long(Case):
    def test_three_thousand_rows(self):
        rows = [number(1)] + [number(1), ("plus",)] * 1499 + [BACK]
        self.assertEqual(len(rows), 3000)
        self.gives(rows, 1500, [])

    def test_many_fields(self):
        rows = [OPEN] * 700 + [number(1), number(2), ("pair", 699), ("first",)] + [SHUT] * 700 + [BACK]
        log = [("open", n) for n in range(700)] + [("lay", 699), ("look", 699)] + [("shut", n) for n in reversed(range(700))]
        self.gives(rows, 1, log)

    def test_many_outer_fields(self):
        log = [("open", n) for n in range(300)] + [("lay", 299)] + [("shut", n) for n in reversed(range(300))]
        self.gives([number(1), number(2), ("pair", 299), BACK], (1, 2), log, outer=300)

    def test_many_calls_with_a_field_for_each(self):
        lines = LOOP[:-3] + ["one", OPEN, number(1), NIL, CONS, ("head",), SHUT, BACK]
        log = []
        for n in range(400):
            log += [("open", n), ("lay", n), ("look", n), ("shut", n)]
        self.gives(lines, 5, log, numbers=(400,), most=(400,))

    def test_a_long_loop(self):
        # Counts down without a call.
        self.gives(["again", local(0), ("unless", "end"), local(0), number(1), ("minus",), DROP, KEEP, ("jump", "again"),
                    "end", number(3), BACK], 3, [], numbers=(5000,), most=(0,))

    def test_a_loop_that_lays(self):
        lines = ["main", NIL, "again", local(0), ("unless", "end"), KEEP, local(0), local(1), CONS, DROP,
                 local(0), number(1), ("minus",), DROP, KEEP, ("jump", "again"), "end", BACK]
        for many in (0, 1, 2, 499):
            self.gives(lines, list(range(1, many + 1)), [("open", 0)] + [("lay", 0)] * many + [("shut", 0)],
                       outer=1, numbers=(many,))
        self.refuses(lines, TooGreat, outer=1, numbers=(500,))

    def test_a_loop_with_a_field_for_each_turn(self):
        lines = ["again", local(0), ("unless", "end"), OPEN, local(0), number(1), PAIR, KEEP, local(1), ("first",),
                 local(1), ("second",), ("minus",), DROP, DROP, KEEP, SHUT, ("jump", "again"), "end", local(0), BACK]
        log = []
        for n in range(300):
            log += [("open", n), ("lay", n), ("look", n), ("look", n), ("shut", n)]
        self.gives(lines, 0, log, numbers=(300,))


class Stopped(Exception):
    """The run is refused here."""


class Cell:
    def __init__(self, word, field, first, second):
        self.word = word
        self.field = field
        self.both = (first, second)


class Field:
    def __init__(self, number, frame):
        self.number = number
        self.frame = frame
        self.open = True


class Frame:
    def __init__(self, known, fields, base):
        self.known = known
        self.fields = fields
        self.base = base


class Doing:
    """Makes a code by doing at once what its rows say, and so knows what its run must tell."""

    def __init__(self, seed):
        self.dice = random.Random(seed)
        self.most = self.dice.choice([0, 2, 5, 200, 200, 200])
        self.segments = []
        self.values = []
        self.pile = []
        self.log = []
        self.calls = 0
        self.depth = 0
        self.steps = self.dice.randint(3, 90)
        self.numbers = [self.a_number() for turn in range(self.dice.randint(0, 3))]
        outer = [self.opened(None) for turn in range(self.dice.randint(0, 2))]
        self.refusal = None
        self.new_segment()
        try:
            self.block(list(self.numbers), list(outer))
            self.value = self.told(self.values.pop())
            for field in reversed(outer):
                self.shut(field)
        except Stopped as stopped:
            self.refusal = stopped.args[0]
        self.code = self.put_together(len(outer))

    def a_number(self):
        return self.dice.choice([0, 0, 1, 2, -3, self.dice.randint(-10, 10), 10 ** 30, -BIG])

    def opened(self, frame):
        field = Field(len([entry for entry in self.log if entry[0] == "open"]), frame)
        self.log.append(("open", field.number))
        self.pile.append(field)
        return field

    def shut(self, field):
        assert self.pile.pop() is field
        field.open = False
        self.log.append(("shut", field.number))

    def told(self, value):
        if not isinstance(value, Cell):
            return [] if value is None else value
        if not value.field.open:
            raise Stopped(Gone)
        first, second = [self.told(half) for half in value.both]
        return (first, second) if value.word == "pair" else [first] + second

    def size(self, value):
        return 1 + sum(self.size(half) for half in value.both) if isinstance(value, Cell) else 1

    # Rows stand in segments, which come in any order in the code; a row to go to is a segment's first.

    def emit(self, *row):
        self.here.append(list(row))
        return self.here[-1]

    def new_segment(self):
        self.here = []
        self.segments.append(self.here)
        return len(self.segments) - 1

    def put_together(self, outer):
        order = list(range(len(self.segments)))
        self.dice.shuffle(order)
        begins, rows = {}, []
        for number in order:
            begins[number] = len(rows)
            rows += self.segments[number]
        rows = [(row[0], begins[row[1]], *row[2:]) if row[0] in ("jump", "unless", "call") else tuple(row) for row in rows]
        return (rows, begins[0], outer)

    def block(self, known, fields):
        """The rows of one frame, which leave one value more and no field of the frame's own open."""
        frame = Frame(known, fields, len(self.values))
        for turn in range(self.dice.randint(1, 40)):
            if self.steps > 0:
                self.steps -= 1
                self.step(frame)
        while len(self.values) > frame.base + 1:
            self.do_keep(frame)
        if len(self.values) == frame.base:
            self.do_number(frame)
        while self.pile and self.pile[-1].frame is frame:
            self.do_shut(frame)
        self.emit("back")

    def step(self, frame):
        top = self.values[frame.base:]
        ways = [self.do_number, self.do_nil, self.do_open, self.do_jump]
        ways += [self.do_local, self.do_local, self.do_drop] if frame.known else []
        ways += [self.do_keep, self.do_none, self.do_call, self.do_call] if top else []
        ways += [self.do_shut] if self.pile and self.pile[-1].frame is frame else []
        ways += [self.do_unless] * 2 if top and isinstance(top[-1], int) else []
        ways += [self.do_look] * 3 if top and isinstance(top[-1], Cell) else []
        ways += [self.do_look] if top and top[-1] is None and self.dice.random() < 0.1 else []
        ways += [self.do_lay] * 8 if len(top) > 1 and frame.fields else []
        ways += [self.do_reckon] * 4 if len(top) > 1 and all(isinstance(each, int) for each in top[-2:]) else []
        self.dice.choice(ways)(frame)

    def do_number(self, frame):
        self.values.append(self.a_number())
        self.emit("number", self.values[-1])

    def do_nil(self, frame):
        self.emit("nil")
        self.values.append(None)

    def do_none(self, frame):
        self.emit("none")
        self.values.append(int(self.values.pop() is None))

    def do_local(self, frame):
        place = self.dice.randrange(len(frame.known))
        self.emit("local", place)
        self.values.append(frame.known[place])

    def do_keep(self, frame):
        self.emit("keep")
        frame.known.append(self.values.pop())

    def do_drop(self, frame):
        self.emit("drop")
        frame.known.pop()

    def do_reckon(self, frame):
        word = self.dice.choice(["plus", "minus", "times", "less"])
        self.emit(word)
        b, a = self.values.pop(), self.values.pop()
        self.values.append({"plus": a + b, "minus": a - b, "times": a * b, "less": int(a < b)}[word])
        if len(str(abs(self.values[-1]))) > 60:
            raise Stopped(TooGreat)

    def do_lay(self, frame):
        top = self.values[-1]
        is_list = top is None or isinstance(top, Cell) and top.word == "cons"
        word = self.dice.choice(["pair", "cons"] if is_list else ["pair"])
        place = self.dice.randrange(len(frame.fields))
        self.emit(word, place)
        second, first = self.values.pop(), self.values.pop()
        field = frame.fields[place]
        self.values.append(Cell(word, field, first, second))
        if self.size(self.values[-1]) > 1000:
            raise Stopped(TooGreat)
        if not field.open:
            raise Stopped(Gone)
        self.log.append(("lay", field.number))

    def do_look(self, frame):
        cell = self.values.pop()
        is_pair = cell is not None and cell.word == "pair"
        side = self.dice.randrange(2)
        self.emit((("first", "second") if is_pair else ("head", "tail"))[side])
        if cell is None:
            raise Stopped(Empty)
        if not cell.field.open:
            raise Stopped(Gone)
        self.log.append(("look", cell.field.number))
        self.values.append(cell.both[side])

    def do_open(self, frame):
        self.emit("open")
        frame.fields.append(self.opened(frame))

    def do_shut(self, frame):
        # By a call's frame where the frame's own last field is another one, or the dice say so.
        if frame.fields[-1] is self.pile[-1] and self.dice.random() < 0.9:
            self.emit("shut")
            self.shut(frame.fields.pop())
            return
        call = self.emit("call", 0, 0, (frame.fields.index(self.pile[-1]),))
        self.begin_call()
        caller = self.here
        call[1] = self.new_segment()
        self.emit("shut")
        self.shut(self.pile[-1])
        self.do_number(frame)
        self.emit("back")
        self.here = caller
        self.depth -= 1
        self.do_keep(frame)

    def begin_call(self):
        if self.calls + 1 > self.most:
            raise Stopped(TooLong)
        if self.depth + 1 > 12:
            raise Stopped(TooDeep)
        self.calls += 1
        self.depth += 1

    def do_call(self, frame):
        many = self.dice.randint(0, len(self.values) - frame.base)
        places = [self.dice.randrange(len(frame.fields)) for turn in range(self.dice.randint(0, 3)) if frame.fields]
        call = self.emit("call", 0, many, tuple(places))
        self.begin_call()
        caller = self.here
        call[1] = self.new_segment()
        given = [self.values.pop() for turn in range(many)][::-1]
        self.block(given, [frame.fields[place] for place in places])
        self.here = caller
        self.depth -= 1

    def do_jump(self, frame):
        jump = self.emit("jump", None)
        jump[1] = self.new_segment()

    def do_unless(self, frame):
        """The rows of the way that is not gone are there, too."""
        unless = self.emit("unless", None)
        here = self.here
        unless[1] = self.new_segment()
        if self.values.pop() == 0:
            here += [["number", 77], ["back"]]
        else:
            self.here += [["number", 77], ["back"]]
            self.here = here


class Doings(unittest.TestCase):
    def test_codes_made_by_doing(self):
        seen = {}
        for seed in range(3000):
            doing = Doing(seed)
            refusal, before = None, kept((doing.code, doing.numbers))
            with self.subTest(seed):
                try:
                    found = run(doing.code, doing.numbers, doing.most)
                except GateError as error:
                    refusal = type(error)
                self.assertEqual(refusal, doing.refusal)
                if refusal is None:
                    self.assertEqual(found, (doing.value, doing.log))
                    self.assertTrue(all_whole(found))
                self.assertEqual((doing.code, doing.numbers), before)
            seen[refusal] = seen.get(refusal, 0) + 1
        for refusal in (None, TooGreat, Empty, TooLong, Gone):
            self.assertGreater(seen.get(refusal, 0), 30, refusal)


if __name__ == "__main__":
    unittest.main()
