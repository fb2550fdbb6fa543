import inspect
import unittest

from eggfloors.errors import NoCase, NoFloor, NoPlan
from eggfloors.plans import looked, plan, walked
from eggfloors.reach import choices, fewest
from reckoning import (BELOW, FORTY, NOT_THE_RULES, check_rule, fewest_table, first_drops, halving, no_cases,
                       other_forms, other_numbers, other_ways_round, refused, replaced, right_trees, small_plans,
                       things_used, upward)

TABLE = fewest_table(60, 12)


class CaseTest(unittest.TestCase):
    def check(self, floors, things):
        refused(self, NoCase, plan, floors, things)
        for tree in (("told", 0), ("told", -5), NOT_THE_RULES):
            refused(self, NoCase, looked, tree, floors, things)
            for floor in (0, 1, -1, FORTY):
                refused(self, NoCase, walked, tree, floors, things, floor)

    def test_no_case(self):
        for floors, things in no_cases(60):
            self.check(floors, things)

    def test_a_house_of_more_than_sixty_floors_though_the_tree_is_right(self):
        for floors in (61, 62, 79):
            refused(self, NoCase, looked, upward(0, floors), floors, 1)
            refused(self, NoCase, walked, upward(0, floors), floors, 1, 0)


class PlanTest(unittest.TestCase):
    def test_arguments(self):
        self.assertEqual(list(inspect.signature(plan).parameters), ["floors", "things"])
        self.assertEqual(plan(floors=0, things=1), ("told", 0))

    def test_no_floors(self):
        for things in range(13):
            self.assertEqual(plan(0, things), ("told", 0))

    def test_by_hand(self):
        self.assertEqual(plan(1, 1), ("drop", 1, ("told", 0), ("told", 1)))
        self.assertEqual(plan(2, 2), ("drop", 1, ("told", 0), ("drop", 2, ("told", 1), ("told", 2))))
        self.assertEqual(plan(3, 2), ("drop", 2, ("drop", 1, ("told", 0), ("told", 1)),
                                      ("drop", 3, ("told", 2), ("told", 3))))

    def test_one_thing_goes_floor_by_floor(self):
        for floors in range(61):
            self.assertEqual(plan(floors, 1), upward(0, floors))

    def test_every_drop_is_the_least_of_the_first_drops(self):
        for floors in range(61):
            for things in range(1, 13):
                tree = plan(floors, things)
                check_rule(self, tree, 0, floors, things, lambda left, having: first_drops(TABLE, left, having)[0])
                check_rule(self, tree, 0, floors, things, lambda left, having: choices(left, having)[0])

    def test_it_is_right_and_has_the_fewest_drops(self):
        for floors in range(61):
            for things in range(1, 13):
                drops = looked(plan(floors, things), floors, things)
                self.assertEqual(drops, TABLE[things][floors])
                self.assertEqual(drops, fewest(floors, things))


class LookedTest(unittest.TestCase):
    def test_arguments(self):
        self.assertEqual(list(inspect.signature(looked).parameters), ["tree", "floors", "things"])
        self.assertEqual(looked(tree=("told", 0), floors=0, things=0), 0)

    def test_every_right_plan_of_small_houses(self):
        for tree, drops, floors, things in small_plans():
            told = looked(tree, floors, things)
            self.assertEqual(told, drops, tree)
            self.assertIs(type(told), int)

    def test_right_plans_that_are_not_the_rules(self):
        self.assertNotEqual(plan(2, 2), NOT_THE_RULES)
        self.assertEqual(looked(NOT_THE_RULES, 2, 2), 2)
        self.assertEqual(looked(upward(0, 60), 60, 12), 60)
        self.assertEqual(looked(halving(0, 60), 60, 5), 6)

    def test_things_may_be_left_over(self):
        for tree, drops, floors, things in small_plans():
            self.assertEqual(looked(tree, floors, 12), drops)

    def test_a_house_without_floors_and_things(self):
        self.assertEqual(looked(("told", 0), 0, 0), 0)
        for number in (-FORTY, -1, 1, FORTY):
            refused(self, NoPlan, looked, ("told", number), 0, 0)
            refused(self, NoPlan, looked, ("drop", number, ("told", 0), ("told", 0)), 0, 0)
        refused(self, NoPlan, looked, ("drop", 0, ("told", 0), ("told", 0)), 0, 1)
        refused(self, NoPlan, looked, ("drop", 1, ("told", 0), ("told", 1)), 0, 1)

    def test_one_number_that_is_another_one(self):
        for tree, drops, floors, things in small_plans():
            for wrong in replaced(tree, other_numbers):
                refused(self, NoPlan, looked, wrong, floors, things)

    def test_a_drop_for_a_told_floor_or_the_other_way_round(self):
        for tree, drops, floors, things in small_plans():
            for wrong in replaced(tree, other_forms):
                refused(self, NoPlan, looked, wrong, floors, things)

    def test_broken_and_whole_the_other_way_round(self):
        for tree, drops, floors, things in small_plans():
            for wrong in replaced(tree, other_ways_round):
                refused(self, NoPlan, looked, wrong, floors, things)

    def test_large_trees_with_one_node_wrong(self):
        for tree, floors, things in right_trees():
            for change in (other_forms, other_ways_round, lambda node: [(node[0], node[1] + 1) + node[2:]],
                           lambda node: [(node[0], node[1] - 1) + node[2:]]):
                for wrong in replaced(tree, change):
                    refused(self, NoPlan, looked, wrong, floors, things)

    def test_a_floor_more_or_less(self):
        for tree, drops, floors, things in small_plans():
            refused(self, NoPlan, looked, tree, floors + 1, things)
            if floors > 0:
                refused(self, NoPlan, looked, tree, floors - 1, things)

    def test_a_thing_less_than_the_tree_uses(self):
        for tree, drops, floors, things in small_plans():
            used = things_used(tree)
            if used > 0:
                self.assertEqual(looked(tree, floors, used), drops)
            for fewer in range(1, used):
                refused(self, NoPlan, looked, tree, floors, fewer)
        refused(self, NoPlan, looked, halving(0, 60), 60, 4)
        refused(self, NoPlan, looked, NOT_THE_RULES, 2, 1)

    def test_deepest_trees(self):
        self.assertEqual(looked(upward(0, 60), 60, 1), 60)
        for floors in (61, 79, 90):
            refused(self, NoPlan, looked, upward(0, floors), 60, 1)
        downward = ("told", 0)
        for floor in range(1, 80):
            downward = ("drop", floor, downward, ("told", floor))
        refused(self, NoPlan, looked, downward, 60, 12)
        refused(self, NoPlan, looked, downward, 1, 1)

    def test_a_way_down_breaks_at_most_the_things_there_are(self):
        downward = ("told", 0)
        for floor in range(1, 13):
            downward = ("drop", floor, downward, ("told", floor))
        self.assertEqual(looked(downward, 12, 12), 12)
        refused(self, NoPlan, looked, downward, 12, 11)
        refused(self, NoPlan, looked, ("drop", 13, downward, ("told", 13)), 13, 12)

    def test_largest_trees(self):
        # 199 tuples: a tree of two forms has an odd number of them.
        for floors in (0, 1, 60):
            refused(self, NoPlan, looked, halving(0, 99), floors, 12)
            refused(self, NoPlan, looked, halving(-20, 79), floors, 12)

    def test_one_tuple_in_many_places(self):
        for floor in (-1, 0, 1, 30, 60):
            tree = ("told", 0)
            for within in range(79):
                tree = ("drop", floor, tree, tree)
            refused(self, NoPlan, looked, tree, 60, 12)


class WalkedTest(unittest.TestCase):
    def test_arguments(self):
        self.assertEqual(list(inspect.signature(walked).parameters), ["tree", "floors", "things", "floor"])
        self.assertEqual(walked(tree=("told", 0), floors=0, things=0, floor=0), [])

    def test_by_hand(self):
        self.assertEqual(walked(NOT_THE_RULES, 2, 2, 0), [(2, True), (1, True)])
        self.assertEqual(walked(NOT_THE_RULES, 2, 2, 1), [(2, True), (1, False)])
        self.assertEqual(walked(NOT_THE_RULES, 2, 2, 2), [(2, False)])
        self.assertEqual(walked(upward(0, 3), 3, 1, 1), [(1, False), (2, True)])

    def test_each_floor(self):
        small = [(tree, floors, things) for tree, drops, floors, things in small_plans()]
        for tree, floors, things in small + right_trees():
            walks = [walked(tree, floors, things, floor) for floor in range(floors + 1)]
            for floor, walk in enumerate(walks):
                self.assertIs(type(walk), list)
                self.leads(tree, walk, floor)
            self.assertEqual(max(len(walk) for walk in walks), looked(tree, floors, things))

    def leads(self, tree, walk, floor):
        for step in walk:
            self.assertEqual([type(step)] + [type(part) for part in step], [tuple, int, bool])
            self.assertEqual(tree[:2], ("drop", step[0]))
            self.assertEqual(step[1], step[0] > floor)
            tree = tree[2] if step[1] else tree[3]
        self.assertEqual(tree, ("told", floor))

    def test_no_floor(self):
        for tree, floors, things in right_trees():
            for floor in BELOW + (floors + 1, floors + 2, 10 ** 39, FORTY):
                refused(self, NoFloor, walked, tree, floors, things, floor)

    def test_no_plan_ahead_of_no_floor(self):
        for tree, drops, floors, things in small_plans():
            for wrong in replaced(tree, other_forms):
                for floor in (-1, 0, floors, floors + 1, FORTY):
                    refused(self, NoPlan, walked, wrong, floors, things, floor)

    def test_a_tree_wrong_off_the_way(self):
        wrong = ("drop", 2, ("drop", 1, ("told", 0), ("told", 0)), ("told", 2))
        refused(self, NoPlan, walked, wrong, 2, 2, 2)
        refused(self, NoPlan, walked, NOT_THE_RULES, 2, 1, 2)


class OwnTest(unittest.TestCase):
    def test_what_is_handed_in_stays_as_it_was(self):
        for tree, floors, things in right_trees():
            before = repr(tree)
            looked(tree, floors, things)
            walked(tree, floors, things, floors)
            self.assertEqual(repr(tree), before)

    def test_a_walk_is_the_askers_own(self):
        for tree, floors, things in right_trees():
            walk = walked(tree, floors, things, floors)
            again = walked(tree, floors, things, floors)
            self.assertIsNot(walk, again)
            kept = list(walk)
            walk.append("more")
            walk[0] = "other"
            self.assertEqual(again, kept)
            self.assertEqual(walked(tree, floors, things, floors), kept)
            self.assertEqual(looked(tree, floors, things), looked(tree, floors, things))

    def test_a_refusal_leaves_nothing_behind(self):
        refused(self, NoPlan, looked, NOT_THE_RULES, 2, 1)
        refused(self, NoFloor, walked, NOT_THE_RULES, 2, 2, 3)
        self.assertEqual(looked(NOT_THE_RULES, 2, 2), 2)
        self.assertEqual(walked(NOT_THE_RULES, 2, 2, 2), [(2, False)])

    def test_a_plan_is_told_alike_each_time(self):
        for floors in (0, 1, 30, 60):
            self.assertEqual(plan(floors, 3), plan(floors, 3))


if __name__ == "__main__":
    unittest.main()
