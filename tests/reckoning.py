"""What the tests reckon with: slow and plain ways to the same answers, and the look of a refusal."""

from math import comb

from eggfloors.errors import BadLine, FloorError, NoCase, NoFloor, NoPlan
from eggfloors.plans import plan

REFUSALS = (NoCase, NoPlan, NoFloor, BadLine)
FORTY = 10 ** 40 - 1
# Below every bound, by little and by much.
BELOW = (-FORTY, -(10 ** 39), -2, -1)
NO_THINGS = BELOW + (13, 14, 10 ** 39, FORTY)
NOT_THE_RULES = ("drop", 2, ("drop", 1, ("told", 0), ("told", 1)), ("told", 2))


def refused(test, wanted, call, *args):
    """The call is refused with the class wanted, and with none of the other three."""
    with test.assertRaises(FloorError, msg=(call.__name__, args)) as caught:
        call(*args)
    test.assertIsInstance(caught.exception, ValueError)
    kinds = [kind for kind in REFUSALS if isinstance(caught.exception, kind)]
    test.assertEqual(kinds, [wanted], (call.__name__, args))


def no_cases(most_floors):
    """Floors and things that are no case, where houses have so many floors at the most."""
    houses = BELOW + (most_floors + 1, most_floors + 2, most_floors + 20, 1001, 10 ** 39, FORTY)
    cases = [(floors, things) for floors in houses for things in (0, 1, 12, FORTY, -FORTY)]
    cases += [(floors, things) for things in NO_THINGS for floors in (0, 1, most_floors)]
    return cases + [(floors, 0) for floors in (1, 2, most_floors - 1, most_floors)]


def reach_sum(things, drops):
    return sum(comb(drops, i) for i in range(1, things + 1))


def fewest_table(most_floors, most_things):
    """Rows by things, then floors: the fewest drops, tried by all first floors. None: can't be found."""
    table = [[0] + [None] * most_floors]
    for things in range(1, most_things + 1):
        row = [0]
        for floors in range(1, most_floors + 1):
            tries = [worst(table[things - 1], row, floors, first) for first in range(1, floors + 1)]
            row.append(min(drops for drops in tries if drops is not None))
        table.append(row)
    return table


def worst(row_below, row, floors, first):
    """The drops that a first drop from this floor leads to, by the rows of a thing less and of as many things."""
    broken = row_below[first - 1]
    return None if broken is None else 1 + max(broken, row[floors - first])


def first_drops(table, floors, things):
    """All floors that the first drop may be from, as a list."""
    row = table[things]
    return [first for first in range(1, floors + 1)
            if worst(table[things - 1], row, floors, first) == row[floors]]


def sums_table(most_floors, most_things):
    """Rows by things, then floors: the least sum, tried by all first floors. None: can't be found."""
    table = [[0] + [None] * most_floors]
    for things in range(1, most_things + 1):
        row = [0]
        for floors in range(1, most_floors + 1):
            row.append(min(told for told, first in sums_of_firsts(table[things - 1], row, floors)))
        table.append(row)
    return table


def sums_of_firsts(row_below, row, floors):
    """The least sum that each first drop leads to, with its floor, by the rows of a thing less and of as many."""
    return [(floors + 1 + row_below[first - 1] + row[floors - first], first)
            for first in range(1, floors + 1) if row_below[first - 1] is not None]


def drops_to(tree, floor):
    """How many drops the way down to the floor has."""
    drops = 0
    while tree[0] == "drop":
        tree = tree[2] if floor < tree[1] else tree[3]
        drops += 1
    return drops


def sum_by_walks(tree, floors):
    return sum(drops_to(tree, floor) for floor in range(floors + 1))


def right_plans(low, high, things):
    """Every right plan for the floor from low to high, with its number of drops."""
    if low == high:
        return [(("told", low), 0)]
    if things == 0:
        return []
    found = []
    for floor in range(low + 1, high + 1):
        for broken, broken_drops in right_plans(low, floor - 1, things - 1):
            for whole, whole_drops in right_plans(floor, high, things):
                found.append((("drop", floor, broken, whole), 1 + max(broken_drops, whole_drops)))
    return found


def upward(low, high):
    """The plan of one thing: floor by floor, so the deepest that is right."""
    tree = ("told", high)
    for floor in range(high, low, -1):
        tree = ("drop", floor, ("told", floor - 1), tree)
    return tree


def halving(low, high):
    """A plan that drops from the middle, as even as can be."""
    if low == high:
        return ("told", low)
    floor = (low + high + 1) // 2
    return ("drop", floor, halving(low, floor - 1), halving(floor, high))


def check_rule(test, tree, low, high, things, first):
    """The tree drops, all the way down, from the floor that first(floors, things) tells of what is left."""
    test.assertIs(type(tree), tuple)
    test.assertIs(type(tree[1]), int)
    if low == high:
        test.assertEqual(tree, ("told", low))
        return
    test.assertEqual(len(tree), 4)
    test.assertEqual(tree[:2], ("drop", low + first(high - low, things)))
    check_rule(test, tree[2], low, tree[1] - 1, things - 1, first)
    check_rule(test, tree[3], tree[1], high, things, first)


def mixed(low, high, things, seed):
    """A right plan whose drops are from floors here and there, by the seed."""
    if low == high:
        return ("told", low)
    # A broken thing that was the last one must leave a single floor.
    floor = low + 1 if things == 1 else low + 1 + (seed * 7 + low * 5 + high * 3) % (high - low)
    return ("drop", floor, mixed(low, floor - 1, things - 1, seed + 1), mixed(floor, high, things, seed + 2))


def small_plans():
    """Every right plan of small houses, with its number of drops, floors and things."""
    for floors in range(5):
        for things in range(1, 4):
            for tree, drops in right_plans(0, floors, things):
                yield tree, drops, floors, things


def right_trees():
    """Larger right plans, with floors and things."""
    trees = [(plan(60, 3), 60, 3), (plan(60, 12), 60, 12), (upward(0, 60), 60, 1), (upward(0, 60), 60, 12),
             (halving(0, 60), 60, 5), (halving(0, 37), 37, 12), (NOT_THE_RULES, 2, 2), (("told", 0), 0, 0)]
    return trees + [(mixed(0, 60 - things, things, things), 60 - things, things) for things in range(1, 13)]


def other_numbers(node):
    numbers = [number for number in range(-2, 9) if number != node[1]] + [-FORTY, FORTY]
    return [(node[0], number) + node[2:] for number in numbers]


def other_forms(node):
    floor = node[1]
    if node[0] == "drop":
        return [("told", number) for number in range(floor - 2, floor + 2)]
    return [("drop", number, ("told", number - 1), ("told", number)) for number in range(floor - 1, floor + 3)]


def other_ways_round(node):
    return [("drop", node[1], node[3], node[2])] if node[0] == "drop" else []


def replaced(tree, change):
    """All trees that come of the tree by changing one node: change(node) lists what may stand there instead."""
    trees = list(change(tree))
    if tree[0] == "drop":
        trees += [("drop", tree[1], broken, tree[3]) for broken in replaced(tree[2], change)]
        trees += [("drop", tree[1], tree[2], whole) for whole in replaced(tree[3], change)]
    return trees


def things_used(tree):
    """How many things the plan needs: the most that break on one way down (the last drop may always break)."""
    if tree[0] == "told":
        return 0
    return max(1 + things_used(tree[2]), things_used(tree[3]))
