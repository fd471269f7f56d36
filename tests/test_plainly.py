"""The plain runner: point 8."""

import random
import unittest

from fieldgate.errors import Empty, GateError, TooDeep, TooGreat, TooLong
from fieldgate.plainly import plain_run
from fieldgate.reading import read
from making import SAMPLES, all_whole, all_words, doubling, inner, kept, main_of, program_made, spoilt

BIG = 10 ** 30 - 1
# grow lays eight times two to the power of d members in front of l.
GROW = """; fun grow (d num, l list num) list num =
    (if d (call grow (minus d 1) (call grow (minus d 1) l))
        (cons 1 (cons 2 (cons 3 (cons 4 (cons 5 (cons 6 (cons 7 (cons 8 l)))))))))"""
# fan begins as many calls within itself as two to the power of d, less one, and d calls are under way at most.
FAN = "; fun fan (d num) num = (if d (plus (call fan (minus d 1)) (call fan (minus d 1))) 0)"
CHAIN = "; fun chain (n num) num = (if n (call chain (minus n 1)) 7)"


class Refused(Exception):
    pass


class Oracle:
    """Works programs out as point 8 says it, in Python's own way: recursive, and sizes counted anew."""

    def __init__(self, program, most):
        self.functions = {function[0]: function for function in program}
        self.most = most
        self.calls = 0

    def size(self, value):
        if isinstance(value, tuple):
            return 1 + self.size(value[0]) + self.size(value[1])
        if isinstance(value, list):
            return 1 + sum(1 + self.size(member) for member in value)
        return 1

    def small(self, value):
        if isinstance(value, int) and len(str(abs(value))) > 60 or self.size(value) > 1000:
            raise Refused(TooGreat)
        return value

    def work(self, part, names, depth):
        word = part[0]
        if word == "number":
            return part[1]
        if word == "name":
            return names[part[1]]
        if word == "nil":
            return []
        if word == "let":
            return self.work(part[3], {**names, part[1]: self.work(part[2], names, depth)}, depth)
        if word == "if":
            return self.work(part[2] if self.work(part[1], names, depth) != 0 else part[3], names, depth)
        given = [self.work(within, names, depth) for within in inner(part)]
        if word == "call":
            if self.calls == self.most:
                raise Refused(TooLong)
            if depth == 12:
                raise Refused(TooDeep)
            self.calls += 1
            name, takers, kind, body = self.functions[part[1]]
            return self.work(body, {taker: value for (taker, taken), value in zip(takers, given)}, depth + 1)
        if word in ("head", "tail") and not given[0]:
            raise Refused(Empty)
        return {
            "plus": lambda: self.small(given[0] + given[1]),
            "minus": lambda: self.small(given[0] - given[1]),
            "times": lambda: self.small(given[0] * given[1]),
            "less": lambda: int(given[0] < given[1]),
            "pair": lambda: self.small((given[0], given[1])),
            "cons": lambda: self.small([given[0]] + given[1]),
            "first": lambda: given[0][0],
            "second": lambda: given[0][1],
            "head": lambda: given[0][0],
            "tail": lambda: given[0][1:],
            "none": lambda: int(not given[0]),
        }[word]()

    def run(self, numbers):
        name, takers, kind, body = self.functions["main"]
        return self.work(body, {taker: value for (taker, taken), value in zip(takers, numbers)}, 0)


def outcome(run):
    try:
        return run()
    except Refused as refusal:
        return refusal.args[0]
    except GateError as error:
        return type(error)


class Case(unittest.TestCase):
    def run_text(self, text, numbers, *most):
        program = read(text)
        before = kept((program, numbers))
        try:
            return plain_run(program, numbers, *most)
        finally:
            self.assertEqual((program, numbers), before)

    def gives(self, text, numbers, value, *most):
        with self.subTest(text, numbers=numbers, most=most):
            found = self.run_text(text, numbers, *most)
            self.assertEqual(found, value)
            self.assertTrue(all_whole(found))

    def refuses(self, text, numbers, error, *most):
        with self.subTest(text, numbers=numbers, most=most):
            with self.assertRaises(error) as caught:
                self.run_text(text, numbers, *most)
            self.assertIs(type(caught.exception), error)

    def gives_body(self, body, value, *numbers, kind="num", behind=""):
        self.gives(f"fun main (n num, m num) {kind} = {body}{behind}", list(numbers or (0, 0)), value)

    def refuses_body(self, body, error, *numbers, kind="num", behind=""):
        self.refuses(f"fun main (n num, m num) {kind} = {body}{behind}", list(numbers or (0, 0)), error)


class Forms(Case):
    def test_numbers_and_names(self):
        self.gives_body("0", 0)
        self.gives_body("-12", -12)
        self.gives_body(str(BIG), BIG)
        self.gives_body("n", 3, 3, 4)
        self.gives_body("m", 4, 3, 4)
        self.gives("fun main () num = 5", [], 5)
        self.gives("fun main (a num, b num, c num, d num) num = (minus (minus a b) (minus c d))", [1, 20, 300, 4000], 3681)

    def test_reckoning(self):
        for n in (-7, -1, 0, 1, 2, 9):
            for m in (-8, -1, 0, 1, 2, 9):
                self.gives_body("(plus n m)", n + m, n, m)
                self.gives_body("(minus n m)", n - m, n, m)
                self.gives_body("(times n m)", n * m, n, m)
                self.gives_body("(less n m)", 1 if n < m else 0, n, m)

    def test_pairs(self):
        self.gives_body("(pair n m)", (3, 4), 3, 4, kind="pair num num")
        self.gives_body("(pair (pair n m) (cons n (nil num)))", ((3, 4), [3]), 3, 4, kind="pair pair num num list num")
        self.gives_body("(first (pair n m))", 3, 3, 4)
        self.gives_body("(second (pair n m))", 4, 3, 4)
        self.gives_body("(first (second (pair n (pair m 5))))", 4, 3, 4)

    def test_lists(self):
        self.gives_body("(nil num)", [], kind="list num")
        self.gives_body("(nil pair num list num)", [], kind="list pair num list num")
        self.gives_body("(cons n (cons m (cons 5 (nil num))))", [3, 4, 5], 3, 4, kind="list num")
        self.gives_body("(head (cons n (cons m (nil num))))", 3, 3, 4)
        self.gives_body("(tail (cons n (cons m (nil num))))", [4], 3, 4, kind="list num")
        self.gives_body("(tail (tail (cons n (cons m (nil num)))))", [], 3, 4, kind="list num")
        self.gives_body("(head (tail (cons n (cons m (nil num)))))", 4, 3, 4)
        self.gives_body("(none (nil num))", 1)
        self.gives_body("(none (cons 0 (nil num)))", 0)
        self.gives_body("(none (cons (nil num) (nil list num)))", 0)
        self.gives_body("(none (tail (cons 0 (nil num))))", 1)
        self.gives_body("(cons (nil num) (cons (cons n (nil num)) (nil list num)))", [[], [3]], 3, 4, kind="list list num")
        self.gives_body("(cons (pair n m) (nil pair num num))", [(3, 4)], 3, 4, kind="list pair num num")
        self.gives_body("(pair (nil num) (pair n (nil num)))", ([], (3, [])), 3, 4, kind="pair list num pair num list num")

    def test_let(self):
        self.gives_body("(let x (plus n m) (times x x))", 49, 3, 4)
        self.gives_body("(let x n (let y m (minus y x)))", 1, 3, 4)

    def test_lets_hide_takers_and_lets(self):
        self.gives_body("(let n 10 (plus n m))", 14, 3, 4)
        self.gives_body("(plus (let n 10 n) n)", 13, 3, 4)
        self.gives_body("(let n (plus n 1) (let n (plus n 1) (let n (plus n 1) n)))", 6, 3, 4)
        self.gives_body("(let x 1 (plus (let x 2 x) x))", 3)
        self.gives_body("(let x 1 (plus x (let x (plus x 10) x)))", 12)
        self.gives_body("(let x 1 (let y (let x 5 x) (minus x y)))", -4)
        self.gives_body("(let n (cons n (nil num)) (head n))", 3, 3, 4)
        self.gives_body("(let n m (let m 100 (minus m n)))", 96, 3, 4)

    def test_a_let_is_not_there_in_the_function_that_is_called(self):
        self.gives_body("(let x 50 (call f (plus x 1)))", 51, behind="; fun f (x num) num = x")
        self.gives_body("(let x 50 (plus (call f 1) x))", 51, behind="; fun f (x num) num = (let x x x)")
        self.gives_body("(let m 50 (plus (call f m n) m))", 97, 3, 4, behind="; fun f (n num, m num) num = (minus n m)")

    def test_if(self):
        for n in (-1, 1, 2, BIG):
            self.gives_body("(if n 5 6)", 5, n, 0)
        self.gives_body("(if n 5 6)", 6, 0, 1)
        self.gives_body("(if n (nil num) (cons 1 (nil num)))", [1], 0, 0, kind="list num")

    def test_only_one_branch_is_worked_out(self):
        for bad in ["(head (nil num))", f"(times {BIG} (times {BIG} {BIG}))", "(call f 1)"]:
            behind = "; fun f (x num) num = (call f x)"
            self.gives_body(f"(if n 5 {bad})", 5, 1, 0, behind=behind)
            self.gives_body(f"(if n {bad} 6)", 6, 0, 0, behind=behind)
            with self.assertRaises(GateError):
                self.run_text(f"fun main (n num) num = (if n {bad} 6){behind}", [1])
        # What is not worked out begins no call.
        self.gives("fun main (n num) num = (if n 5 (call main n))", [1], 5, 0)

    def test_calls(self):
        self.gives("fun f (a num, b num, c num, d num) pair pair num num pair num num = (pair (pair d c) (pair b a));"
                   "fun main () pair pair num num pair num num = (call f 1 2 3 4)", [], ((4, 3), (2, 1)))
        self.gives("fun main () num = (plus (call f) (call g (call f))); fun f () num = 5; fun g (n num) num = (times n n)",
                   [], 30)
        self.gives("fun f (l list num) list num = (cons 1 l); fun main () list num = (call f (call f (nil num)))", [], [1, 1])

    def test_samples(self):
        for name, numbers, value in [
                ("sum", [5], 5), ("sort", [4, 3, 2, 1], [1, 2, 3, 4]), ("sort", [2, 2, -7, 2], [-7, 2, 2, 2]),
                ("turn", [0], ([], [])), ("turn", [3], ([1, 2, 3], [3, 2, 1])), ("turn", [11], (list(range(1, 12)), list(range(11, 0, -1)))),
                ("swap", [0], 1), ("swap", [1], 2), ("swap", [10], 1), ("fib", [8], 21), ("fib", [0], 0),
                ("zip", [2], [(2, 12), (1, 11)]), ("zip", [0], []), ("ring", [0], []),
                ("ring", [2], [[2]]), ("ring", [3], [[3], [3], [3]]), ("fresh", [0], 0), ("fresh", [2], 5)]:
            self.gives(SAMPLES[name][0], numbers, value)

    def test_functions_that_call_themselves(self):
        down = "fun main (n num) num = (if n (plus n (call main (minus n 1))) 0)"
        for n in range(13):
            self.gives(down, [n], n * (n + 1) // 2)
        for n in (13, 14, 100, -1):
            self.refuses(down, [n], TooDeep)


class Order(Case):
    """A refusal tells where a run has come to: the first one is the one that is told."""
    # What refuses with TooGreat, with Empty, with TooDeep.
    BAD = [("(times x (times x x))", TooGreat), ("(head (nil num))", Empty), ("(call deep)", TooDeep)]
    BEHIND = "; fun deep () num = (call deep)"

    def refuses_in(self, form, error):
        self.refuses_body(f"(let x {BIG} {form})", error, behind=self.BEHIND)

    def test_two_parts(self):
        for one, error in self.BAD:
            for other, later in self.BAD:
                for word in ("plus", "minus", "times", "less"):
                    self.refuses_in(f"({word} {one} {other})", error)
                self.refuses_in(f"(first (pair {one} {other}))", error)
                self.refuses_in(f"(head (cons {one} (cons {other} (nil num))))", error)
                self.refuses_in(f"(let y {one} {other})", error)
                self.refuses_in(f"(if {one} {other} {other})", error)
                self.refuses_in(f"(if 1 {one} {other})", error)
                self.refuses_in(f"(if 0 {one} {other})", later)
                self.refuses_in(f"(let y 1 (plus {one} {other}))", error)

    def test_parts_ahead_of_the_part_itself(self):
        for one, error in self.BAD:
            self.refuses_in(f"(plus 1 {one})", error)
            self.refuses_in(f"(head (tail (cons {one} (nil num))))", error)
            self.refuses_in(f"(second (pair 1 {one}))", error)
            self.refuses_in(f"(none (cons 1 (cons {one} (nil num))))", error)

    def test_four_parts_of_a_call(self):
        behind = self.BEHIND + "; fun f (a num, b num, c num, d num) num = (head (nil num))"
        for place in range(4):
            for one, error in self.BAD:
                for other, later in self.BAD:
                    parts = ["1"] * place + [one] + [other] * (3 - place)
                    body = f"(let x {BIG} (call f {' '.join(parts)}))"
                    self.refuses_body(body, error, behind=behind)

    def test_calls_are_counted_in_order(self):
        # The second call is refused, and only behind what stands ahead of it.
        text = "fun main () num = (plus (call f) (plus (head (nil num)) (call f))); fun f () num = 1"
        self.refuses(text, [], TooLong, 0)
        self.refuses(text, [], Empty, 1)
        self.refuses(text, [], Empty, 2)
        text = "fun main () num = (plus (plus (call f) (call f)) (head (nil num))); fun f () num = 1"
        self.refuses(text, [], TooLong, 1)
        self.refuses(text, [], Empty, 2)


class TooGreats(Case):
    def test_numbers_of_60_and_61_figures(self):
        most = 10 ** 60 - 1
        for sign in (1, -1):
            self.gives_body("(plus n m)", sign * most, sign * (most - 1), sign)
            self.refuses_body("(plus n m)", TooGreat, sign * most, sign)
            self.gives_body("(plus n m)", sign * (most - 1), sign * most, -sign)
            self.gives_body("(minus n m)", sign * most, sign * (most - 1), -sign)
            self.refuses_body("(minus n m)", TooGreat, sign * most, -sign)
            self.gives_body("(minus n m)", 0, sign * most, sign * most)
            self.refuses_body("(minus n m)", TooGreat, sign * most, -sign * most)
            self.gives_body("(times n m)", sign * most, most, sign)
            self.gives_body("(times n m)", sign * BIG * BIG, BIG, sign * BIG)
            self.gives_body("(times n m)", sign * 10 ** 59, 10 ** 30, sign * 10 ** 29)
            self.refuses_body("(times n m)", TooGreat, 10 ** 30, sign * 10 ** 30)
            self.refuses_body("(times n m)", TooGreat, most, sign * 2)
            self.refuses_body("(times n m)", TooGreat, most, sign * most)
            self.gives_body("(times n m)", 0, sign * most, 0)

    def test_no_other_part_is_refused_for_a_number(self):
        most = 10 ** 60 - 1
        self.gives_body("(less n m)", 1, -most, most)
        self.gives_body("(if n n m)", most, most, 1)
        self.gives_body("(pair n m)", (most, -most), most, -most, kind="pair num num")
        self.gives_body("(cons n (nil num))", [-most], -most, 0, kind="list num")
        # Numbers of a program that lie beyond point 4 are not refused for it.
        far = 10 ** 61
        for body in [("number", far), ("first", ("pair", ("number", far), ("number", 1))), ("let", "x", ("number", far), ("name", "x"))]:
            self.assertEqual(plain_run([("main", [], ("num",), body)], []), far)
        self.assertEqual(plain_run([("main", [], ("num",), ("minus", ("number", far), ("number", far)))], []), 0)

    # A size is always odd, a tree of cells having one leaf more than cells: 999 is the greatest one made.
    def test_a_cons_of_a_great_size(self):
        list_of_488 = "(call grow 5 (call grow 4 (call grow 3 (call grow 2 (call grow 0 (nil num))))))"
        numbers = list(range(1, 9)) * 61
        for more in range(13):
            # A size of 2 for each member, and 1.
            text = f"fun main (n num) list num = (call lay n {list_of_488})" + GROW + \
                   "; fun lay (n num, l list num) list num = (if n (call lay (minus n 1) (cons n l)) l)"
            if 2 * (488 + more) + 1 <= 1000:
                self.gives(text, [more], list(range(1, more + 1)) + numbers)
            else:
                self.refuses(text, [more], TooGreat)
        self.assertEqual(2 * (488 + 11) + 1, 999)

    def test_a_pair_and_a_cons_of_lists(self):
        # 240 members, and 9 more: sizes of 481 and 499.
        ahead = "(let l (call grow 4 (call grow 3 (call grow 2 (call grow 1 (nil num))))) (let m (call nine l) "
        nine = "; fun nine (l list num) list num = " \
               "(cons 1 (cons 2 (cons 3 (cons 4 (cons 5 (cons 6 (cons 7 (cons 8 (cons 9 l)))))))))"
        for first, second, size in [
                ("l", "l", 481 + 481), ("l", "m", 481 + 499), ("m", "m", 499 + 499), ("m", "(cons 1 m)", 499 + 501),
                ("(cons 1 m)", "m", 501 + 499), ("m", "(tail m)", 499 + 497), ("(cons 1 m)", "(tail m)", 501 + 497)]:
            for form, kind, more in [(f"(pair {first} {second})", "pair list num list num", 1),
                                     (f"(cons {first} (cons {second} (nil list num)))", "list list num", 3)]:
                text = f"fun main () {kind} = {ahead}{form}))" + GROW + nine
                if size + more <= 1000:
                    self.assertEqual(Oracle([], 0).size(self.run_text(text, [])), size + more)
                else:
                    self.refuses(text, [], TooGreat)

    def test_a_pair_of_the_same_in_both_halves(self):
        # A size of two to the power of many + 1, less one: 511, then 1023.
        for many, wanted in [(1, 5), (7, 5), (8, 5), (9, TooGreat), (28, TooGreat)]:
            program = read(f"fun main (x num) num = (let y {doubling(many)} 5)")
            self.assertEqual(outcome(lambda: plain_run(program, [1])), wanted)

    def test_a_refusal_comes_as_soon_as_the_run_comes_to_it(self):
        # What comes to a great number is refused, though another part would make it small again.
        self.refuses_body("(minus (times n m) (times n m))", TooGreat, 10 ** 30, 10 ** 30)
        self.refuses_body("(let x (times n m) 1)", TooGreat, 10 ** 30, 10 ** 30)


class Empties(Case):
    def test_head_and_tail(self):
        self.refuses_body("(head (nil num))", Empty)
        self.refuses_body("(tail (nil num))", Empty, kind="list num")
        self.refuses_body("(head (tail (cons 1 (nil num))))", Empty)
        self.refuses_body("(tail (tail (cons 1 (nil num))))", Empty, kind="list num")
        self.refuses_body("(let x (tail (nil list num)) 1)", Empty)
        self.refuses_body("(head (head (cons (nil num) (nil list num))))", Empty)
        self.refuses_body("(head (first (pair (nil num) 1)))", Empty)


class TooLongs(Case):
    def test_none_and_one(self):
        for text in ["fun main () num = (call f); fun f () num = 1",
                     "fun f (n num) num = n; fun main () num = (call f 1)"]:
            self.refuses(text, [], TooLong, 0)
            self.gives(text, [], 1, 1)
            self.gives(text, [], 1)
        self.gives("fun main () num = 3", [], 3, 0)
        two = "fun main () num = (plus (call f) (call f)); fun f () num = 1"
        self.refuses(two, [], TooLong, 0)
        self.refuses(two, [], TooLong, 1)
        self.gives(two, [], 2, 2)

    def test_the_very_count(self):
        # d of fan, with the call from main: two to the power of d + 1, less one.
        for d in range(8):
            text = f"fun main () num = (call fan {d})" + FAN
            many = 2 ** (d + 1) - 1
            self.gives(text, [], 0, many)
            self.gives(text, [], 0, many + 1)
            self.refuses(text, [], TooLong, many - 1)

    def test_two_hundred_left_out_and_four_hundred(self):
        # 127 and 63 calls, and 1 for each f.
        fans = "fun main (n num) num = (plus (plus (call fan 6) (call fan 5)) (call chain n))"
        text = fans + FAN + CHAIN
        for n in range(10):
            self.gives(text, [n], 7)
            self.gives(text, [n], 7, 200)
        for n in (10, 11):
            self.refuses(text, [n], TooLong)
            self.refuses(text, [n], TooLong, 200)
            self.gives(text, [n], 7, 400)
        more = "fun main (n num) num = (plus (plus (call fan 7) (call fan 6)) (plus (call chain n) (call fan 2)))" + FAN + CHAIN
        self.gives(more, [10], 7, 400)
        self.refuses(more, [11], TooLong, 400)
        self.refuses(more, [0], TooLong)

    def test_a_call_is_begun_behind_its_parts(self):
        for most in (0, 1):
            self.refuses("fun main () num = (call f (head (nil num))); fun f (n num) num = n", [], Empty, most)
        text = "fun main () num = (call f (call f (call f 1))); fun f (n num) num = (head (nil num))"
        self.refuses(text, [], Empty, 1)
        self.refuses(text, [], TooLong, 0)
        text = "fun main () num = (call g (call f 1)); fun f (n num) num = n; fun g (n num) num = (head (nil num))"
        self.refuses(text, [], TooLong, 1)
        self.refuses(text, [], Empty, 2)


class TooDeeps(Case):
    def test_twelve_and_thirteen(self):
        text = "fun main (n num) num = (call chain n)" + CHAIN
        for n in range(12):
            self.gives(text, [n], 7)
        for n in (12, 13, 50, -1):
            self.refuses(text, [n], TooDeep)

    def test_main_is_not_called_unless_it_is(self):
        text = "fun main (n num) num = (if n (call main (minus n 1)) 7)"
        self.gives(text, [12], 7)
        self.refuses(text, [13], TooDeep)
        self.gives(text, [0], 7, 0)
        self.refuses(text, [1], TooLong, 0)

    def test_too_long_comes_ahead(self):
        text = "fun main (n num) num = (call chain n)" + CHAIN
        self.refuses(text, [50], TooLong, 12)
        self.refuses(text, [50], TooLong, 11)
        self.refuses(text, [50], TooDeep, 13)
        self.refuses(text, [12], TooLong, 12)
        self.refuses(text, [12], TooDeep, 13)
        self.gives(text, [11], 7, 12)

    def test_calls_that_are_over_are_not_under_way(self):
        self.gives("fun main () num = (plus (call chain 11) (plus (call chain 11) (call chain 11)))" + CHAIN, [], 21)
        self.gives("fun main () num = (call chain (minus (call chain 11) (minus (call chain 11) 11)))" + CHAIN, [], 7)
        # The parts of a call are worked out ahead of it: they are not within it.
        text = "fun main (n num) num = (call f n); fun f (n num) num = (if n (call g (call f (minus n 1))) 0);" \
               "fun g (n num) num = n"
        self.gives(text, [11], 0)
        self.refuses(text, [12], TooDeep)

    def test_behind_the_parts_of_the_call(self):
        text = "fun main (n num) num = (call f n); fun f (n num) num = (call f (head (if n (cons (minus n 1) (nil num)) (nil num))))"
        self.refuses(text, [11], Empty)
        self.refuses(text, [12], TooDeep)
        self.refuses(text, [11], TooLong, 11)

    def test_rings(self):
        text = "fun main (n num) num = (call f n); fun f (n num) num = (if n (call g (minus n 1)) 1);" \
               "fun g (n num) num = (if n (call main (minus n 1)) 2)"
        for n in range(40):
            if n + 1 + (n // 2) <= 12:
                self.gives(text, [n], 1 if n % 2 == 0 else 2)
            else:
                self.refuses(text, [n], TooDeep)


class Wide(Case):
    def test_hundreds_of_members(self):
        text = "fun main (d num) list num = (call grow d (nil num))" + GROW
        for d in range(6):
            self.gives(text, [d], list(range(1, 9)) * 2 ** d)
        self.refuses(text, [6], TooGreat)

    def test_deep_bodies_under_way_at_once(self):
        for nest in (10, 40):
            body = ("call", "main", ("minus", ("name", "n"), ("number", 1)))
            for turn in range(nest):
                body = ("plus", ("number", 1), body) if turn % 2 else ("plus", body, ("number", 1))
            program = [("main", [("n", ("num",))], ("num",), ("if", ("name", "n"), body, ("number", 0)))]
            self.assertEqual(plain_run(program, [12]), 12 * nest)
            self.assertEqual(outcome(lambda: plain_run(program, [13])), TooDeep)

    def test_truths_are_not_told(self):
        for body in ["(less n m)", "(less m n)", "(none (nil num))", "(none (cons 1 (nil num)))"]:
            self.assertIs(type(self.run_text(f"fun main (n num, m num) num = {body}", [1, 2])), int)


class Owned(Case):
    def test_each_list_is_a_new_one_at_its_own_place(self):
        text = "fun main (n num) pair list list num list list num = " \
               "(let l (cons n (nil num)) (let m (cons l (cons l (nil list num))) (pair m m)))"
        found = self.run_text(text, [3])
        self.assertEqual(found, ([[3], [3]], [[3], [3]]))
        found[0][0].append(5)
        self.assertEqual(found, ([[3, 5], [3]], [[3], [3]]))
        found[0].append(6)
        self.assertEqual(found, ([[3, 5], [3], 6], [[3], [3]]))
        self.gives(text, [3], ([[3], [3]], [[3], [3]]))
        empty = self.run_text("fun main () pair list num list num = (let l (nil num) (pair l l))", [])
        empty[0].append(1)
        self.assertEqual(empty, ([1], []))

    def test_what_was_told_is_spoilt(self):
        for name, (text, rows) in SAMPLES.items():
            program = read(text)
            for numbers in rows:
                first = outcome(lambda: plain_run(program, numbers))
                before = kept(first)
                if isinstance(first, (list, tuple)):
                    spoilt(first)
                self.assertEqual(outcome(lambda: plain_run(program, numbers)), before)
            self.assertEqual(program, read(text))

    def test_what_was_handed_in_is_changed_later(self):
        program = read("fun main (n num) list num = (cons n (nil num))")
        numbers = [3]
        found = plain_run(program, numbers)
        numbers[0] = 4
        numbers.append(5)
        program.clear()
        self.assertEqual(found, [3])
        self.assertEqual(plain_run(read("fun main (n num) list num = (cons n (nil num))"), [4]), [4])

    def test_after_a_refusal(self):
        program = read("fun main (n num) num = (plus (call chain n) (head (cons n (nil num))))" + CHAIN)
        for turn in range(3):
            self.assertEqual(outcome(lambda: plain_run(program, [12])), TooDeep)
            self.assertEqual(plain_run(program, [11]), 18)
            self.assertEqual(outcome(lambda: plain_run(program, [11], 5)), TooLong)
            self.assertEqual(plain_run(program, [11], 12), 18)


class AsTold(unittest.TestCase):
    def test_made_programs(self):
        seen = {}
        words = set()
        for seed in range(500):
            program = program_made(seed)
            words |= all_words(program)
            dice = random.Random(seed)
            takers = len(main_of(program)[1])
            for most in (200, 0, 1, 5, 30, 400):
                numbers = [dice.choice([0, 0, 1, 2, -1, 5, 10 ** 59, -(10 ** 60) + 1]) for taker in range(takers)]
                before = kept((program, numbers))
                found = outcome(lambda: plain_run(program, numbers, most))
                self.assertEqual((program, numbers), before)
                self.assertEqual(found, outcome(lambda: Oracle(program, most).run(numbers)), (seed, numbers, most))
                if isinstance(found, type):
                    seen[found] = seen.get(found, 0) + 1
                else:
                    self.assertTrue(all_whole(found))
                    seen[None] = seen.get(None, 0) + 1
        self.assertEqual(len(words), 17)
        for error in (TooGreat, Empty, TooLong, TooDeep, None):
            self.assertGreater(seen[error], 20, error)

    def test_samples(self):
        for name, (text, rows) in SAMPLES.items():
            program = read(text)
            for numbers in rows:
                for most in list(range(30)) + [200, 400]:
                    found = outcome(lambda: plain_run(program, numbers, most))
                    self.assertEqual(found, outcome(lambda: Oracle(program, most).run(numbers)), (name, numbers, most))


if __name__ == "__main__":
    unittest.main()
