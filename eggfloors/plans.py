"""Plans: trees of drops, made by the rule, looked through and walked."""

from eggfloors.cases import check_tree_case
from eggfloors.errors import NoFloor, NoPlan
from eggfloors.reach import choices


def plan(floors, things):
    check_tree_case(floors, things)
    return rule_plan(0, floors, things)


def rule_plan(low, high, things):
    firsts = choices(high - low, things)
    if firsts is None:
        return ("told", low)
    floor = low + firsts[0]
    broken = rule_plan(low, floor - 1, things - 1)
    whole = rule_plan(floor, high, things)
    return ("drop", floor, broken, whole)


def looked(tree, floors, things):
    check_tree_case(floors, things)
    return drops_of(tree, 0, floors, things)


# Each node is checked ahead of the trees below it: low and high then draw nearer with each step down,
# so a tree that isn't right is left early, however deep it is.
def drops_of(tree, low, high, things):
    if tree[0] == "told":
        check_told(tree[1], low, high)
        return 0
    floor = tree[1]
    check_drop(floor, low, high, things)
    broken = drops_of(tree[2], low, floor - 1, things - 1)
    whole = drops_of(tree[3], floor, high, things)
    return 1 + max(broken, whole)


def check_told(floor, low, high):
    if floor != low or floor != high:
        raise NoPlan(f"floor {floor} is told where it is from {low} to {high}")


def check_drop(floor, low, high, things):
    if things == 0:
        raise NoPlan(f"no thing is left for a drop from floor {floor}")
    if floor <= low or floor > high:
        raise NoPlan(f"a drop from floor {floor} where the floor is from {low} to {high}")


def walked(tree, floors, things, floor):
    looked(tree, floors, things)
    if floor < 0 or floor > floors:
        raise NoFloor(f"a house of {floors} floors can't have floor {floor}")
    walk = []
    left = tree
    while left[0] == "drop":
        breaks = left[1] > floor
        walk.append((left[1], breaks))
        left = left[2] if breaks else left[3]
    return walk
