import inspect
import unittest

from eggfloors.errors import NoCase, NoFloor
from eggfloors.reach import fewest
from eggfloors.search import Search
from reckoning import BELOW, FORTY, fewest_table, first_drops, no_cases, refused

SMALL = 60
TABLE = fewest_table(SMALL, 12)


def seen(search):
    """All that a search tells, but for what may be refused."""
    return search.span(), search.left(), search.drops()


def searched(floors, things, steps):
    """A new search that was told these drops."""
    search = Search(floors, things)
    for floor, broken in steps:
        search.dropped(floor, broken)
    return search


def still_possible(floors, steps):
    """The floors that agree with all drops: a thing breaks where it is dropped from above the floor, and only there."""
    return [floor for floor in range(floors + 1) if all((dropped > floor) == broken for dropped, broken in steps)]


class HouseTest(unittest.TestCase):
    def test_interface(self):
        self.assertEqual(list(inspect.signature(Search).parameters), ["floors", "things"])
        self.assertEqual(list(inspect.signature(Search.dropped).parameters), ["self", "floor", "broken"])
        for method in (Search.span, Search.left, Search.drops, Search.need, Search.advice):
            self.assertEqual(list(inspect.signature(method).parameters), ["self"])
        self.assertEqual(Search(floors=3, things=2).dropped(floor=2, broken=False), 1)

    def test_no_case(self):
        for floors, things in no_cases(1000):
            refused(self, NoCase, Search, floors, things)

    def test_a_new_search(self):
        for floors in (1, 2, 59, 60, 61, 999, 1000):
            for things in (1, 2, 12):
                search = Search(floors, things)
                self.assertEqual(seen(search), ((0, floors), things, []))
                self.assertEqual(search.need(), fewest(floors, things))

    def test_a_house_without_floors(self):
        for things in range(13):
            search = Search(0, things)
            self.assertEqual(seen(search), ((0, 0), things, []))
            self.assertEqual(search.need(), 0)
            self.assertIsNone(search.advice())
            for floor in BELOW + (0, 1, FORTY):
                for broken in (True, False):
                    refused(self, NoFloor, search.dropped, floor, broken)
            self.assertEqual(seen(search), ((0, 0), things, []))


class DroppedTest(unittest.TestCase):
    def test_by_hand(self):
        search = Search(100, 2)
        self.assertEqual((search.need(), search.advice()), (14, (9, 14)))
        self.assertEqual(search.dropped(14, False), 1)
        self.assertEqual(seen(search), ((14, 100), 2, [(14, False)]))
        self.assertEqual((search.need(), search.advice()), (13, (22, 27)))
        self.assertEqual(search.dropped(27, True), 2)
        self.assertEqual(seen(search), ((14, 26), 1, [(14, False), (27, True)]))
        self.assertEqual((search.need(), search.advice()), (12, (15, 15)))
        self.assertEqual(search.dropped(15, True), 3)
        self.assertEqual(seen(search), ((14, 14), 0, [(14, False), (27, True), (15, True)]))
        self.assertEqual((search.need(), search.advice()), (0, None))

    def test_the_floor_may_be_the_greatest(self):
        search = Search(3, 1)
        search.dropped(3, False)
        self.assertEqual(seen(search), ((3, 3), 1, [(3, False)]))
        self.assertEqual((search.need(), search.advice()), (0, None))

    def test_nothing_left_and_the_floor_not_known(self):
        search = Search(3, 1)
        self.assertEqual(search.dropped(3, True), 1)
        self.assertEqual(seen(search), ((0, 2), 0, [(3, True)]))
        refused(self, NoCase, search.need)
        refused(self, NoCase, search.advice)
        for floor in (-1, 0, 1, 2, 3, 4):
            for broken in (True, False):
                refused(self, NoFloor, search.dropped, floor, broken)
        self.assertEqual(seen(search), ((0, 2), 0, [(3, True)]))

    def test_nothing_left_and_the_floor_known(self):
        search = Search(3, 1)
        search.dropped(1, True)
        self.assertEqual(seen(search), ((0, 0), 0, [(1, True)]))
        self.assertEqual((search.need(), search.advice()), (0, None))
        refused(self, NoFloor, search.dropped, 1, True)

    def test_all_searches_of_small_houses(self):
        for floors in range(6):
            for things in range(0 if floors == 0 else 1, 5):
                self.goes_on(floors, things, [])

    def goes_on(self, floors, things, steps):
        search = searched(floors, things, steps)
        self.tells(search, floors, things, steps)
        low, high = search.span()
        for floor in list(range(-1, floors + 2)) + [-FORTY, FORTY]:
            for broken in (True, False):
                if low < floor <= high and search.left() > 0:
                    told = searched(floors, things, steps).dropped(floor, broken)
                    self.assertEqual(told, len(steps) + 1)
                    self.assertIs(type(told), int)
                    self.goes_on(floors, things, steps + [(floor, broken)])
                else:
                    refused(self, NoFloor, search.dropped, floor, broken)
        self.tells(search, floors, things, steps)

    def tells(self, search, floors, things, steps):
        """All that the search tells is what the drops let one know."""
        possible = still_possible(floors, steps)
        low, high = possible[0], possible[-1]
        left = things - sum(broken for floor, broken in steps)
        self.assertEqual(possible, list(range(low, high + 1)))
        self.assertEqual(seen(search), ((low, high), left, steps))
        self.assertEqual([type(search.span()), type(search.left()), type(search.drops())], [tuple, int, list])
        self.assertEqual([(type(step), type(step[0]), type(step[1])) for step in search.drops()],
                         [(tuple, int, bool)] * len(steps))
        if low == high:
            self.assertEqual((search.need(), search.advice()), (0, None))
        elif left == 0:
            refused(self, NoCase, search.need)
            refused(self, NoCase, search.advice)
        else:
            self.assertEqual(search.need(), TABLE[left][high - low])
            firsts = first_drops(TABLE, high - low, left)
            self.assertEqual(search.advice(), (low + firsts[0], low + firsts[-1]))
            self.assertIs(type(search.advice()), tuple)

    def test_other_floors_in_a_house_of_sixty(self):
        for things in range(1, 13):
            for true_floor in range(0, SMALL + 1, 4):
                search = Search(SMALL, things)
                steps = []
                while search.span()[0] < search.span()[1] and search.left() > 0:
                    low, high = search.span()
                    # Here and there within the span, at times at its end.
                    floor = low + 1 + (7 * len(steps) + 5 * true_floor + things) % (high - low)
                    steps.append((floor, floor > true_floor))
                    self.assertEqual(search.dropped(*steps[-1]), len(steps))
                    self.tells(search, SMALL, things, steps)


class AdviceTest(unittest.TestCase):
    def follow(self, floors, things, true_floor, choose):
        """By the advice each drop brings what is needed down, and so the floor is found in time."""
        search = Search(floors, things)
        steps = []
        while search.advice() is not None:
            needed = search.need()
            floor = choose(*search.advice())
            steps.append((floor, floor > true_floor))
            search.dropped(*steps[-1])
            self.assertLess(search.need(), needed)
        self.assertEqual(search.span(), (true_floor, true_floor))
        self.assertEqual(search.drops(), steps)
        self.assertEqual(search.left(), things - sum(broken for floor, broken in steps))
        self.assertEqual(search.need(), 0)
        self.assertLessEqual(len(steps), fewest(floors, things))
        return len(steps)

    def test_whole_searches(self):
        for floors in (1, 2, 13, 60, 61):
            for things in (1, 2, 3, 12):
                for choose in (min, max, lambda least, greatest: (least + greatest) // 2):
                    drops = [self.follow(floors, things, floor, choose) for floor in range(floors + 1)]
                    self.assertEqual(max(drops), fewest(floors, things))

    def test_the_greatest_houses(self):
        for floors in (999, 1000):
            for things in (2, 3, 12):
                for true_floor in (0, 1, 2, 499, 500, 501, floors - 1, floors):
                    for choose in (min, max):
                        self.follow(floors, things, true_floor, choose)

    def test_one_thing_and_the_greatest_house(self):
        search = Search(1000, 1)
        for floor in range(1, 1001):
            self.assertEqual(search.advice(), (floor, floor))
            self.assertEqual(search.dropped(floor, False), floor)
        self.assertEqual((search.span(), search.need(), search.advice()), ((1000, 1000), 0, None))


class NoFloorTest(unittest.TestCase):
    def test_nothing_is_changed(self):
        search = searched(100, 3, [(50, True), (20, False)])
        before = seen(search), search.need(), search.advice()
        for floor in BELOW + (0, 1, 19, 20, 50, 51, 100, 101, 1001, 10 ** 39, FORTY):
            for broken in (True, False):
                refused(self, NoFloor, search.dropped, floor, broken)
                self.assertEqual((seen(search), search.need(), search.advice()), before)
        self.assertEqual(search.dropped(49, True), 3)
        self.assertEqual(search.dropped(21, False), 4)

    def test_where_the_floor_is_known(self):
        search = searched(4, 12, [(2, False), (3, True)])
        for floor in (0, 1, 2, 3, 4, 5):
            for broken in (True, False):
                refused(self, NoFloor, search.dropped, floor, broken)
        self.assertEqual(seen(search), ((2, 2), 11, [(2, False), (3, True)]))


class OwnTest(unittest.TestCase):
    def test_a_list_of_drops_is_the_askers_own(self):
        search = searched(60, 3, [(10, False), (30, True)])
        told = search.drops()
        self.assertIsNot(told, search.drops())
        told.append((20, True))
        told[0] = "other"
        self.assertEqual(seen(search), ((10, 29), 2, [(10, False), (30, True)]))
        self.assertEqual(search.dropped(20, False), 3)
        told.clear()
        self.assertEqual(search.drops(), [(10, False), (30, True), (20, False)])

    def test_a_list_that_was_told_does_not_grow(self):
        search = Search(60, 3)
        first = search.drops()
        search.dropped(10, False)
        self.assertEqual(first, [])

    def test_two_searches_beside_one_another(self):
        one, other = Search(60, 3), Search(60, 3)
        one.dropped(10, False)
        self.assertEqual(seen(other), ((0, 60), 3, []))
        other.dropped(40, True)
        one.dropped(50, False)
        self.assertEqual(seen(one), ((50, 60), 3, [(10, False), (50, False)]))
        self.assertEqual(seen(other), ((0, 39), 2, [(40, True)]))
        one.drops().append((1, True))
        self.assertEqual(other.drops(), [(40, True)])
        refused(self, NoFloor, one.dropped, 20, True)
        self.assertEqual(other.dropped(20, True), 2)

    def test_asking_changes_nothing(self):
        search = searched(60, 3, [(10, False)])
        before = seen(search), search.need(), search.advice()
        for times in range(3):
            self.assertEqual((seen(search), search.need(), search.advice()), before)


if __name__ == "__main__":
    unittest.main()
