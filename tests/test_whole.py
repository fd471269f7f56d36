"""From a text to the machine's answer: points 1 to 3 over the whole program."""

import random
import unittest

from fieldgate.bounds import bound
from fieldgate.brackets import placed
from fieldgate.coding import coded
from fieldgate.desk import Desk
from fieldgate.errors import Empty, TooDeep, TooGreat, TooLong
from fieldgate.fielding import fielded, signs
from fieldgate.kinds import look_over
from fieldgate.machine import run
from fieldgate.plainly import plain_run
from fieldgate.reading import read
from fieldgate.showing import shown
from making import SAMPLES, all_whole, any_gap, kept, main_of, program_made, spoilt, text_of
from test_bounds import lies
from test_brackets import outcome

# grow lays eight times two to the power of d members in front of l.
GROW = """; fun grow (d num, l list num) list num =
    (if d (call grow (minus d 1) (call grow (minus d 1) l))
        (cons 1 (cons 2 (cons 3 (cons 4 (cons 5 (cons 6 (cons 7 (cons 8 l)))))))))"""
FAN = "; fun fan (d num) num = (if d (plus (call fan (minus d 1)) (call fan (minus d 1))) (first (pair 0 d)))"
# Texts with numbers for main; each has a run that is told and one that is refused.
EDGES = [
    ("fun main (d num, n num) list num = (call grow d (if n (cons n (nil num)) (nil num)))" + GROW,
     [[0, 0], [3, 1], [5, 0], [5, 9], [6, 0]]),
    ("fun main (n num, m num) pair list num num = (pair (call grow n (call grow m (nil num))) 1)" + GROW,
     [[4, 4], [5, 4], [5, 5], [4, 5]]),
    ("fun main (n num, m num) num = (first (pair (times n m) (plus n m)))",
     [[10 ** 29, 10 ** 30], [10 ** 30, 10 ** 30], [10 ** 60 - 1, 1], [-1, 10 ** 60 - 1], [1 - 10 ** 60, -1]]),
    # 127, 63 and 7 calls, and then 3, 7 and more.
    ("fun main (d num) num = (plus (call fan 6) (plus (call fan 5) (plus (call fan 2) (call fan d))))" + FAN, [[1], [2], [12], [13]]),
    ("fun main (n num) num = (call go n (nil num)); fun go (n num, l list num) num = (if n (call go (minus n 1) (cons n l)) (head l))",
     [[0], [1], [11], [12], [-1]]),
    ("""fun main (n num) list list num = (call rows n); fun rows (n num) list list num =
            (if n (cons (call row n n) (call rows (minus n 1))) (nil list num));
        fun row (n num, m num) list num = (if n (cons (times n m) (call row (minus n 1) m)) (nil num))""", [[0], [3], [10], [11], [12]]),
    ("""fun main (n num) num = (call a n (pair n 1)); fun a (n num, p pair num num) num =
            (if n (plus (first p) (call b (minus n 1) p (pair n (second p)))) (second p));
        fun b (n num, p pair num num, q pair num num) num = (if n (call a (minus n 1) (if (less n 5) p q)) (first q))""",
     [[0], [1], [4], [11], [12]]),
]


def all_lists(value):
    """Every list in what was told, at each of its places."""
    lists = [value] if isinstance(value, list) else []
    if isinstance(value, (list, tuple)):
        for each in value:
            lists += all_lists(each)
    return lists


class Case(unittest.TestCase):
    def look(self, log, outer):
        """Each cell is laid, and looked at, in a field that is open, and fields are shut in the order of a pile."""
        pile = []
        opened = 0
        for place, (word, field) in enumerate(log):
            if word == "open":
                self.assertEqual(field, opened)
                opened += 1
                pile.append(field)
            elif word == "shut":
                self.assertEqual(pile.pop(), field)
            else:
                self.assertIn(word, ("lay", "look"))
                self.assertIn(field, pile)
        self.assertEqual(pile, [])
        self.assertEqual(log[:outer], [("open", field) for field in range(outer)])
        self.assertEqual(log[len(log) - outer:], [("shut", field) for field in reversed(range(outer))])

    def go_over(self, text, numbers, most):
        program = read(text)
        set_in = placed(fielded(program))
        code = coded(set_in)
        plain = outcome(lambda: plain_run(program, numbers, most))
        found = outcome(lambda: run(code, numbers, most))
        if isinstance(plain, type):
            self.assertEqual(found, plain)
            return plain
        self.assertTrue(all_whole(found))
        self.assertEqual(found[0], plain)
        self.look(found[1], code[2])
        least = bound(set_in)
        if least is not None:
            at_once = lies(found[1])
            self.assertLessEqual(at_once[0], least[0])
            self.assertLessEqual(at_once[1], least[1])
        return None


class Answers(Case):
    def test_samples_and_edges(self):
        seen = []
        for text, rows in list(SAMPLES.values()) + EDGES:
            for numbers in rows:
                for most in (0, 7, 200, 400):
                    with self.subTest(text, numbers=numbers, most=most):
                        seen.append(self.go_over(text, numbers, most))
        for refusal in (None, TooGreat, Empty, TooLong, TooDeep):
            self.assertIn(refusal, seen)

    def test_the_edges_are_edges(self):
        for text, rows in EDGES:
            seen = [self.go_over(text, numbers, 200) for numbers in rows]
            self.assertIn(None, seen, text)
            self.assertTrue([refusal for refusal in seen if refusal is not None], text)

    def test_made_programs(self):
        seen = {}
        for seed in range(500):
            dice = random.Random(seed)
            for program in (program_made(seed), program_made(seed, least=12), program_made(seed, rings=False)):
                text = text_of(program, any_gap(dice))
                numbers = [dice.choice([-2, -1, 0, 1, 2, 3, 10 ** 40]) for taker in main_of(program)[1]]
                with self.subTest(seed, text=text, numbers=numbers):
                    refusal = self.go_over(text, numbers, dice.choice([0, 3, 200, 400]))
                    seen[refusal] = seen.get(refusal, 0) + 1
        self.assertGreater(seen[None], 600)
        for refusal in (TooGreat, Empty, TooLong, TooDeep):
            self.assertGreater(seen.get(refusal, 0), 3, refusal)

    def test_a_shown_program_runs_alike(self):
        for text, rows in SAMPLES.values():
            program = read(text)
            again = read(shown(program))
            look_over(again)
            for numbers in rows:
                self.assertEqual(outcome(lambda: run(coded(placed(fielded(again))), numbers)),
                                 outcome(lambda: run(coded(placed(fielded(program))), numbers)))


class Owned(Case):
    """Nothing that is handed in is changed, and every list that is given back is the asker's own."""

    def steps(self, text, numbers):
        """Each step of the way: what is asked, and what is handed in for it."""
        program = read(text)
        found = fielded(program)
        set_in = placed(found)
        code = coded(set_in)
        return [(read, (text,)), (signs, (program,)), (fielded, (program,)), (placed, (found,)), (coded, (set_in,)),
                (run, (code, numbers)), (plain_run, (program, numbers)), (bound, (set_in,))]

    def cases(self):
        for text, rows in SAMPLES.values():
            yield text, rows[0]
        for seed in range(60):
            program = program_made(seed)
            yield text_of(program), [1 for taker in main_of(program)[1]]

    def test_what_is_handed_in_stays_and_what_was_told_is_emptied(self):
        for text, numbers in self.cases():
            for ask, handed in self.steps(text, numbers):
                with self.subTest(text, ask=ask.__name__):
                    before = kept(handed)
                    found = outcome(lambda: ask(*handed))
                    wanted = kept(found)
                    if not isinstance(found, type) and found is not None:
                        lists = all_lists(found) + all_lists(handed)
                        self.assertEqual(len({id(each) for each in lists}), len(lists))
                        spoilt([found])
                    self.assertEqual(handed, before)
                    self.assertEqual(outcome(lambda: ask(*handed)), wanted)

    def test_what_was_handed_in_is_emptied_later(self):
        for text, numbers in self.cases():
            for number in range(len(self.steps(text, numbers))):
                ask, handed = self.steps(text, list(numbers))[number]
                with self.subTest(text, ask=ask.__name__):
                    found = outcome(lambda: ask(*handed))
                    wanted = kept(found)
                    spoilt(handed)
                    self.assertEqual(found, wanted)
                    handed = self.steps(text, list(numbers))[number][1]
                    self.assertEqual(outcome(lambda: ask(*handed)), wanted)

    def test_a_desk_between_other_questions(self):
        text = SAMPLES["sort"][0]
        desk = Desk()
        desk.say("load " + text)
        before = [desk.say(row) for row in ("run 4 3 2 1", "bound", "sign put", "lay 4 3 2 1")]
        for number in range(len(self.steps(text, [4, 3, 2, 1]))):
            ask, handed = self.steps(text, [4, 3, 2, 1])[number]
            found = ask(*handed)
            spoilt(handed)
            spoilt([found])
        self.assertEqual([desk.say(row) for row in ("run 4 3 2 1", "bound", "sign put", "lay 4 3 2 1")], before)


if __name__ == "__main__":
    unittest.main()
