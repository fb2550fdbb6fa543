import inspect
import unittest

from eggfloors.errors import NoCase
from eggfloors.reach import choices, fewest, reach
from reckoning import BELOW, FORTY, NO_THINGS, fewest_table, first_drops, no_cases, reach_sum, refused

SMALL = 70
TABLE = fewest_table(SMALL, 12)
# Beside the bounds, houses that are just in reach of some things and drops, or just beyond it.
LARGE = (71, 78, 79, 91, 92, 127, 128, 199, 200, 201, 202, 255, 256, 298, 299, 511, 512, 637, 638, 967, 968, 990, 991,
         998, 999, 1000)


def needs(things):
    """The fewest drops of houses of 0 to 1000 floors, by the sum."""
    told = [0]
    for floors in range(1, 1001):
        drops = told[-1]
        told.append(drops if reach_sum(things, drops) >= floors else drops + 1)
    return told


class ReachTest(unittest.TestCase):
    def test_arguments(self):
        self.assertEqual(list(inspect.signature(reach).parameters), ["things", "drops"])
        self.assertEqual(reach(things=2, drops=3), 6)

    def test_by_hand(self):
        self.assertEqual(reach(1, 7), 7)
        self.assertEqual(reach(2, 3), 6)
        self.assertEqual(reach(3, 2), 3)
        self.assertEqual(reach(2, 14), 105)
        self.assertEqual(reach(12, 12), 4095)

    def test_all_against_the_sum(self):
        for things in range(13):
            for drops in range(201):
                told = reach(things, drops)
                self.assertEqual(told, reach_sum(things, drops), (things, drops))
                self.assertIs(type(told), int)

    def test_nothing_to_drop_or_no_drop_reaches_nothing(self):
        for number in range(13):
            self.assertEqual(reach(number, 0), 0)
        for drops in range(201):
            self.assertEqual(reach(0, drops), 0)

    def test_it_is_the_most_floors(self):
        for things in range(1, 13):
            for drops in range(7):
                found = [floors for floors in range(SMALL + 1) if TABLE[things][floors] <= drops]
                self.assertEqual(min(reach(things, drops), SMALL), max(found), (things, drops))

    def test_no_case(self):
        for things in NO_THINGS:
            for drops in (0, 1, 200):
                refused(self, NoCase, reach, things, drops)
        for drops in BELOW + (201, 202, 10 ** 39, FORTY):
            for things in (0, 1, 12):
                refused(self, NoCase, reach, things, drops)
        refused(self, NoCase, reach, FORTY, -FORTY)


class HouseTest(unittest.TestCase):
    def test_arguments(self):
        for call in (fewest, choices):
            self.assertEqual(list(inspect.signature(call).parameters), ["floors", "things"])
        self.assertEqual(fewest(floors=100, things=2), 14)
        self.assertEqual(choices(floors=100, things=2), (9, 14))

    def test_no_case(self):
        for floors, things in no_cases(1000) + [(60, 0), (61, 0)]:
            refused(self, NoCase, fewest, floors, things)
            refused(self, NoCase, choices, floors, things)


class FewestTest(unittest.TestCase):
    def test_no_floors(self):
        for things in range(13):
            self.assertEqual(fewest(0, things), 0)

    def test_small_houses_by_all_first_floors(self):
        for things in range(1, 13):
            for floors in range(SMALL + 1):
                told = fewest(floors, things)
                self.assertEqual(told, TABLE[things][floors], (floors, things))
                self.assertIs(type(told), int)

    def test_all_houses_by_the_sum(self):
        for things in range(1, 13):
            self.assertEqual([fewest(floors, things) for floors in range(1001)], needs(things), things)

    def test_one_thing_needs_a_drop_for_each_floor(self):
        # More drops than `reach` is asked for.
        for floors in (199, 200, 201, 999, 1000):
            self.assertEqual(fewest(floors, 1), floors)

    def test_greatest_houses(self):
        self.assertEqual([fewest(1000, things) for things in range(1, 13)],
                         [1000, 45, 19, 13, 11, 11, 11, 10, 10, 10, 10, 10])


class ChoicesTest(unittest.TestCase):
    def test_no_floors(self):
        for things in range(13):
            self.assertIsNone(choices(0, things))

    def test_small_houses_by_all_first_floors(self):
        for things in range(1, 13):
            for floors in range(1, SMALL + 1):
                told = choices(floors, things)
                self.assertIs(type(told), tuple)
                self.assertEqual([type(floor) for floor in told], [int, int])
                stretch = list(range(told[0], told[1] + 1))
                self.assertEqual(stretch, first_drops(TABLE, floors, things), (floors, things))

    def test_large_houses_by_the_drops_that_they_need(self):
        rows = [[0] + [None] * 1000] + [needs(things) for things in range(1, 13)]
        for things in range(1, 13):
            for floors in LARGE:
                firsts = first_drops(rows, floors, things)
                self.assertEqual(choices(floors, things), (firsts[0], firsts[-1]), (floors, things))

    def test_one_thing_goes_up_from_the_first_floor(self):
        for floors in (1, 2, 60, 200, 201, 202, 1000):
            self.assertEqual(choices(floors, 1), (1, 1))

    def test_where_one_floor_alone_will_do(self):
        self.assertEqual(choices(105, 2), (14, 14))
        self.assertEqual(choices(7, 3), (4, 4))

    def test_the_greatest_is_at_most_the_highest_floor(self):
        self.assertEqual(choices(1, 12), (1, 1))
        self.assertEqual(choices(2, 2), (1, 2))


if __name__ == "__main__":
    unittest.main()
