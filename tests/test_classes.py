"""Places that are made one: point 10 and the interface."""

import random
import unittest

from fieldgate.classes import Classes


class Numbers(unittest.TestCase):
    def test_from_0_on(self):
        classes = Classes()
        self.assertEqual([classes.new() for turn in range(5)], [0, 1, 2, 3, 4])
        classes.one(0, 4)
        self.assertEqual(classes.new(), 5)
        self.assertIs(type(classes.new()), int)

    def test_each_object_has_its_own(self):
        first = Classes()
        second = Classes()
        self.assertEqual([first.new(), first.new(), second.new(), first.new(), second.new()], [0, 1, 0, 2, 1])
        first.one(0, 1)
        self.assertIs(first.same(0, 1), True)
        self.assertIs(second.same(0, 1), False)
        third = Classes()
        third.new()
        third.new()
        self.assertIs(third.same(0, 1), False)


class Sameness(unittest.TestCase):
    def setUp(self):
        self.classes = Classes()
        for turn in range(8):
            self.classes.new()

    def ones(self, *groups):
        """Whether just the places of one group are one, asked both ways."""
        group_of = {place: group for group in groups for place in group}
        for place in range(8):
            for other in range(8):
                wanted = place == other or place in group_of and group_of[place] == group_of.get(other)
                self.assertIs(self.classes.same(place, other), wanted, (place, other))

    def test_none_at_first(self):
        self.ones()

    def test_one_step(self):
        self.classes.one(2, 5)
        self.ones((2, 5))

    def test_with_itself_and_again(self):
        self.classes.one(3, 3)
        self.ones()
        self.classes.one(3, 4)
        self.classes.one(3, 4)
        self.classes.one(4, 3)
        self.ones((3, 4))

    def test_many_steps(self):
        self.classes.one(0, 1)
        self.classes.one(2, 3)
        self.ones((0, 1), (2, 3))
        self.classes.one(1, 4)
        self.ones((0, 1, 4), (2, 3))
        self.classes.one(3, 0)
        self.ones((0, 1, 2, 3, 4))
        self.classes.one(6, 7)
        self.ones((0, 1, 2, 3, 4), (6, 7))

    def test_all_that_were_one_with_either(self):
        self.classes.one(0, 1)
        self.classes.one(1, 2)
        self.classes.one(3, 4)
        self.classes.one(4, 5)
        self.classes.one(0, 5)
        self.ones((0, 1, 2, 3, 4, 5))

    def test_asking_changes_nothing(self):
        self.classes.one(0, 1)
        for turn in range(3):
            self.ones((0, 1))

    def test_a_place_that_comes_later(self):
        self.classes.one(0, 1)
        late = self.classes.new()
        self.assertEqual([self.classes.same(late, place) for place in range(9)], [False] * 8 + [True])
        self.classes.one(late, 1)
        self.assertTrue(self.classes.same(0, late))
        self.assertFalse(self.classes.same(2, late))


class Many(unittest.TestCase):
    def test_long_rows(self):
        for way in (lambda place: (place, place + 1), lambda place: (place + 1, place), lambda place: (0, place + 1),
                    lambda place: (place + 1, 0)):
            classes = Classes()
            for turn in range(5000):
                classes.new()
            for place in range(4998):
                classes.one(*way(place))
            self.assertTrue(all(classes.same(0, place) and classes.same(place, 4998) for place in range(4999)))
            self.assertFalse(any(classes.same(place, 4999) for place in range(4999)))

    def test_as_groups_tell(self):
        for seed in range(30):
            dice = random.Random(seed)
            classes = Classes()
            groups = []
            for turn in range(60):
                if len(groups) < 2 or dice.random() < 0.4:
                    groups.append({classes.new()})
                    self.assertEqual(sum(len(group) for group in groups), 1 + max(max(group) for group in groups))
                else:
                    place, other = dice.choice(sorted(dice.choice(groups))), dice.choice(sorted(dice.choice(groups)))
                    self.assertIsNone(classes.one(place, other))
                    joined = [group for group in groups if place in group or other in group]
                    groups = [group for group in groups if group not in joined] + [set().union(*joined)]
                for place in sorted(set().union(*groups)):
                    for other in sorted(set().union(*groups)):
                        wanted = any(place in group and other in group for group in groups)
                        self.assertIs(classes.same(place, other), wanted)


if __name__ == "__main__":
    unittest.main()
