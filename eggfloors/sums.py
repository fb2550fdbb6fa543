"""Sums: the drops of a plan added up over all floors, and the plans whose sum is the least."""

from eggfloors.cases import check_tree_case
from eggfloors.plans import looked


def least_sum(floors, things):
    check_tree_case(floors, things)
    return least_sums(floors, things)[things][floors]


def sum_plan(floors, things):
    check_tree_case(floors, things)
    return sum_rule_plan(least_sums(floors, things), 0, floors, things)


def sum_rule_plan(rows, low, high, things):
    if low == high:
        return ("told", low)
    sums = sums_by_first(rows[things - 1], rows[things], high - low)
    # index tells the first place of the least sum, and so the least floor.
    floor = low + 1 + sums.index(min(sums))
    broken = sum_rule_plan(rows, low, floor - 1, things - 1)
    whole = sum_rule_plan(rows, floor, high, things)
    return ("drop", floor, broken, whole)


# Rows by things, then floors. Without a thing only the house without floors can be searched, so the first row is short.
def least_sums(floors, things):
    rows = [[0]]
    for fewer in range(things):
        rows.append(next_row(rows[fewer], floors))
    return rows


def next_row(below, floors):
    row = [0]
    for highest in range(1, floors + 1):
        row.append(min(sums_by_first(below, row, highest)))
    return row


# The least sum for each first drop, from floor 1 up. The first drop itself counts once for each floor that it can be,
# and these are one more than the house has, as floor 0 is among them.
def sums_by_first(below, row, floors):
    highest = min(floors, len(below))
    return [floors + 1 + below[first - 1] + row[floors - first] for first in range(1, highest + 1)]


def sum_of(tree, floors, things):
    looked(tree, floors, things)
    return sum_of_right(tree, 0, floors)


# Each drop is in the walks of all floors that it can be there.
def sum_of_right(tree, low, high):
    if tree[0] == "told":
        return 0
    floor = tree[1]
    broken = sum_of_right(tree[2], low, floor - 1)
    whole = sum_of_right(tree[3], floor, high)
    return high - low + 1 + broken + whole
