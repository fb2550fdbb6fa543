import inspect
import unittest

from eggfloors.errors import NoCase, NoPlan
from eggfloors.plans import looked, plan, walked
from eggfloors.sums import least_sum, sum_of, sum_plan
from reckoning import (BELOW, FORTY, NOT_THE_RULES, check_rule, halving, mixed, no_cases, other_forms, other_numbers,
                       other_ways_round, refused, replaced, right_plans, right_trees, small_plans, sum_by_walks,
                       sums_of_firsts, sums_table, things_used, upward)

TABLE = sums_table(60, 12)
ALL_PLANS = 7


def all_sums(floors, things):
    """Every right plan, as the sum of its walks and the floor of its first drop (None where nothing is dropped)."""
    return [(sum_by_walks(tree, floors), tree[1] if tree[0] == "drop" else None)
            for tree, drops in right_plans(0, floors, things)]


def first_of_sums(floors, things):
    """The least floor of the least sum, as the least of the pairs of both."""
    return min(sums_of_firsts(TABLE[things - 1], TABLE[things], floors))[1]


class CaseTest(unittest.TestCase):
    def check(self, floors, things):
        refused(self, NoCase, least_sum, floors, things)
        refused(self, NoCase, sum_plan, floors, things)
        for tree in (("told", 0), ("told", -5), ("told", FORTY), NOT_THE_RULES, halving(-20, 79)):
            refused(self, NoCase, sum_of, tree, floors, things)

    def test_no_case(self):
        for floors, things in no_cases(60):
            self.check(floors, things)

    def test_a_house_of_more_than_sixty_floors_though_the_tree_is_right(self):
        for floors in (61, 62, 79):
            refused(self, NoCase, sum_of, upward(0, floors), floors, 1)
            refused(self, NoCase, sum_of, halving(0, floors), floors, 12)


class LeastSumTest(unittest.TestCase):
    def test_arguments(self):
        self.assertEqual(list(inspect.signature(least_sum).parameters), ["floors", "things"])
        self.assertEqual(least_sum(floors=2, things=1), 5)

    def test_no_floors(self):
        for things in range(13):
            self.assertEqual(least_sum(0, things), 0)

    def test_by_hand(self):
        self.assertEqual([least_sum(floors, 1) for floors in range(5)], [0, 2, 5, 9, 14])
        self.assertEqual([least_sum(floors, 2) for floors in range(5)], [0, 2, 5, 8, 12])
        # With two things, 5 floors from floor 3: 6 + 5 + 5; with three things it is no less.
        self.assertEqual([least_sum(5, things) for things in (1, 2, 3)], [20, 16, 16])

    def test_small_houses_by_all_right_plans(self):
        for floors in range(ALL_PLANS + 1):
            for things in range(1, 5):
                least = min(told for told, first in all_sums(floors, things))
                self.assertEqual(least_sum(floors, things), least, (floors, things))

    def test_all_houses_by_all_first_floors(self):
        for floors in range(61):
            for things in range(1, 13):
                told = least_sum(floors, things)
                self.assertEqual(told, TABLE[things][floors], (floors, things))
                self.assertIs(type(told), int)

    def test_one_thing_goes_floor_by_floor(self):
        for floors in range(61):
            self.assertEqual(least_sum(floors, 1), floors * (floors + 3) // 2)

    def test_things_enough_make_the_tree_as_even_as_can_be(self):
        for floors in range(61):
            leaves = floors + 1
            depth = leaves.bit_length() - 1
            even = leaves * depth + 2 * (leaves - 2 ** depth)
            for things in range(6, 13):
                self.assertEqual(least_sum(floors, things), even)


class SumPlanTest(unittest.TestCase):
    def test_arguments(self):
        self.assertEqual(list(inspect.signature(sum_plan).parameters), ["floors", "things"])
        self.assertEqual(sum_plan(floors=0, things=1), ("told", 0))

    def test_no_floors(self):
        for things in range(13):
            self.assertEqual(sum_plan(0, things), ("told", 0))

    def test_by_hand(self):
        self.assertEqual(sum_plan(1, 1), ("drop", 1, ("told", 0), ("told", 1)))
        self.assertEqual(sum_plan(2, 2), ("drop", 1, ("told", 0), ("drop", 2, ("told", 1), ("told", 2))))
        self.assertEqual(sum_plan(3, 2), ("drop", 2, ("drop", 1, ("told", 0), ("told", 1)),
                                          ("drop", 3, ("told", 2), ("told", 3))))

    def test_one_thing_goes_floor_by_floor(self):
        for floors in range(61):
            self.assertEqual(sum_plan(floors, 1), upward(0, floors))

    def test_the_first_drop_of_small_houses_by_all_right_plans(self):
        for floors in range(1, ALL_PLANS + 1):
            for things in range(1, 5):
                # The least of the pairs: the least sum, and of its plans the least first floor.
                self.assertEqual(sum_plan(floors, things)[:2], ("drop", min(all_sums(floors, things))[1]))

    def test_every_drop_is_the_least_floor_of_the_least_sum(self):
        for floors in range(61):
            for things in range(1, 13):
                check_rule(self, sum_plan(floors, things), 0, floors, things, first_of_sums)

    def test_it_is_right_and_has_the_least_sum(self):
        for floors in range(61):
            for things in range(1, 13):
                tree = sum_plan(floors, things)
                looked(tree, floors, things)
                self.assertEqual(sum_by_walks(tree, floors), least_sum(floors, things))
                self.assertEqual(sum_of(tree, floors, things), least_sum(floors, things))

    def test_it_is_not_the_rules_plan(self):
        # The rule's plan may have the fewest drops and yet a greater sum.
        self.assertGreater(sum_of(plan(60, 12), 60, 12), least_sum(60, 12))


class SumOfTest(unittest.TestCase):
    def test_arguments(self):
        self.assertEqual(list(inspect.signature(sum_of).parameters), ["tree", "floors", "things"])
        self.assertEqual(sum_of(tree=("told", 0), floors=0, things=0), 0)

    def test_by_hand(self):
        self.assertEqual(sum_of(("drop", 1, ("told", 0), ("told", 1)), 1, 1), 2)
        self.assertEqual(sum_of(NOT_THE_RULES, 2, 2), 5)
        self.assertEqual(sum_of(upward(0, 60), 60, 1), 1890)
        self.assertEqual(sum_of(upward(0, 60), 60, 12), 1890)

    def check(self, tree, floors, things):
        told = sum_of(tree, floors, things)
        self.assertIs(type(told), int)
        self.assertEqual(told, sum_by_walks(tree, floors))
        self.assertEqual(told, sum(len(walked(tree, floors, things, floor)) for floor in range(floors + 1)))
        self.assertGreaterEqual(told, least_sum(floors, things))

    def test_every_right_plan_of_small_houses(self):
        for tree, drops, floors, things in small_plans():
            self.check(tree, floors, things)
            self.check(tree, floors, 12)

    def test_large_plans(self):
        for tree, floors, things in right_trees():
            self.check(tree, floors, things)
        for floors in range(0, 61, 6):
            for things in range(1, 13):
                for tree in (plan(floors, things), sum_plan(floors, things), mixed(0, floors, things, floors)):
                    self.check(tree, floors, things)

    def test_a_house_without_floors_and_things(self):
        self.assertEqual(sum_of(("told", 0), 0, 0), 0)
        for number in BELOW + (1, 2, FORTY):
            refused(self, NoPlan, sum_of, ("told", number), 0, 0)
        for number in BELOW + (0, 1, FORTY):
            refused(self, NoPlan, sum_of, ("drop", number, ("told", 0), ("told", 0)), 0, 0)
            refused(self, NoPlan, sum_of, ("drop", number, ("told", 0), ("told", 0)), 0, 12)

    def test_small_trees_with_one_node_wrong(self):
        for tree, drops, floors, things in small_plans():
            for change in (other_numbers, other_forms, other_ways_round):
                for wrong in replaced(tree, change):
                    refused(self, NoPlan, sum_of, wrong, floors, things)

    def test_large_trees_with_one_node_wrong(self):
        for tree, floors, things in right_trees():
            for change in (other_forms, other_ways_round, lambda node: [(node[0], node[1] + 1) + node[2:]]):
                for wrong in replaced(tree, change):
                    refused(self, NoPlan, sum_of, wrong, floors, things)

    def test_a_floor_more_or_less(self):
        for tree, drops, floors, things in small_plans():
            refused(self, NoPlan, sum_of, tree, floors + 1, things)
            if floors > 0:
                refused(self, NoPlan, sum_of, tree, floors - 1, things)

    def test_a_thing_less_than_the_tree_uses(self):
        for tree, drops, floors, things in small_plans():
            for fewer in range(1, things_used(tree)):
                refused(self, NoPlan, sum_of, tree, floors, fewer)
        refused(self, NoPlan, sum_of, halving(0, 60), 60, 4)

    def test_deepest_and_largest_trees(self):
        downward = ("told", 0)
        for floor in range(1, 80):
            downward = ("drop", floor, downward, ("told", floor))
        for tree in (downward, upward(0, 79), upward(-1, 79), halving(0, 99), halving(-20, 79)):
            for floors in (0, 1, 60):
                refused(self, NoPlan, sum_of, tree, floors, 12)


class OwnTest(unittest.TestCase):
    def test_what_is_handed_in_stays_as_it_was(self):
        for tree, floors, things in right_trees():
            before = repr(tree)
            sum_of(tree, floors, things)
            self.assertEqual(repr(tree), before)

    def test_alike_each_time(self):
        for floors in (60, 0, 30, 1, 60):
            for things in (12, 1, 3):
                self.assertEqual(sum_plan(floors, things), sum_plan(floors, things))
                self.assertEqual(least_sum(floors, things), TABLE[things][floors])

    def test_a_refusal_leaves_nothing_behind(self):
        refused(self, NoPlan, sum_of, NOT_THE_RULES, 2, 1)
        refused(self, NoCase, sum_of, NOT_THE_RULES, 2, 0)
        self.assertEqual(sum_of(NOT_THE_RULES, 2, 2), 5)


if __name__ == "__main__":
    unittest.main()
