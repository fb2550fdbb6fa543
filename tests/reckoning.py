"""What the tests reckon with: slow and plain ways to the same answers, and the look of a refusal."""

from math import comb

from eggfloors.errors import BadLine, FloorError, NoCase, NoFloor, NoPlan

REFUSALS = (NoCase, NoPlan, NoFloor, BadLine)
FORTY = 10 ** 40 - 1
# Below every bound, by little and by much.
BELOW = (-FORTY, -(10 ** 39), -2, -1)


def refused(test, wanted, call, *args):
    """The call is refused with the class wanted, and with none of the other three."""
    with test.assertRaises(FloorError, msg=(call.__name__, args)) as caught:
        call(*args)
    test.assertIsInstance(caught.exception, ValueError)
    kinds = [kind for kind in REFUSALS if isinstance(caught.exception, kind)]
    test.assertEqual(kinds, [wanted], (call.__name__, args))


def reach_sum(things, drops):
    return sum(comb(drops, i) for i in range(1, things + 1))


def fewest_table(most_floors, most_things):
    """Rows by things, then floors: the fewest drops, tried by all first floors. None: can't be found."""
    table = [[0] + [None] * most_floors]
    for things in range(1, most_things + 1):
        row = [0]
        for floors in range(1, most_floors + 1):
            tries = [worst(table[things - 1], row, floors, first) for first in range(1, floors + 1)]
            row.append(min(drops for drops in tries if drops is not None))
        table.append(row)
    return table


def worst(row_below, row, floors, first):
    """The drops that a first drop from this floor leads to, by the rows of a thing less and of as many things."""
    broken = row_below[first - 1]
    return None if broken is None else 1 + max(broken, row[floors - first])


def first_drops(table, floors, things):
    """All floors that the first drop may be from, as a list."""
    row = table[things]
    return [first for first in range(1, floors + 1)
            if worst(table[things - 1], row, floors, first) == row[floors]]


def right_plans(low, high, things):
    """Every right plan for the floor from low to high, with its number of drops."""
    if low == high:
        return [(("told", low), 0)]
    if things == 0:
        return []
    found = []
    for floor in range(low + 1, high + 1):
        for broken, broken_drops in right_plans(low, floor - 1, things - 1):
            for whole, whole_drops in right_plans(floor, high, things):
                found.append((("drop", floor, broken, whole), 1 + max(broken_drops, whole_drops)))
    return found


def upward(low, high):
    """The plan of one thing: floor by floor, so the deepest that is right."""
    tree = ("told", high)
    for floor in range(high, low, -1):
        tree = ("drop", floor, ("told", floor - 1), tree)
    return tree


def halving(low, high):
    """A plan that drops from the middle, as even as can be."""
    if low == high:
        return ("told", low)
    floor = (low + high + 1) // 2
    return ("drop", floor, halving(low, floor - 1), halving(floor, high))


def replaced(tree, change):
    """All trees that come of the tree by changing one node: change(node) lists what may stand there instead."""
    trees = list(change(tree))
    if tree[0] == "drop":
        trees += [("drop", tree[1], broken, tree[3]) for broken in replaced(tree[2], change)]
        trees += [("drop", tree[1], tree[2], whole) for whole in replaced(tree[3], change)]
    return trees


def things_used(tree):
    """How many things the plan needs: the most that break on one way down (the last drop may always break)."""
    if tree[0] == "told":
        return 0
    return max(1 + things_used(tree[2]), things_used(tree[3]))
