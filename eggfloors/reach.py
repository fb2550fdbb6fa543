"""Reach: how far things and drops go, and what a house needs of them."""

from eggfloors.cases import check_case, check_things
from eggfloors.errors import NoCase

MOST_DROPS = 200


def reach(things, drops):
    check_things(things)
    if drops < 0 or drops > MOST_DROPS:
        raise NoCase(f"drops are 0 to {MOST_DROPS}, not {drops}")
    return floors_reached(things, drops)


def fewest(floors, things):
    check_case(floors, things)
    return fewest_drops(floors, things)


def choices(floors, things):
    check_case(floors, things)
    if floors == 0:
        return None
    later = fewest_drops(floors, things) - 1
    # What lies above the first drop must be in reach with the thing whole, what lies below it with the thing broken.
    # The house itself is beyond the reach of the later drops, so both of these are floors of it.
    least = floors - floors_reached(things, later)
    greatest = floors_reached(things - 1, later) + 1
    return (least, greatest)


# Without the bound on drops: one thing needs a drop for each floor of a house, and a house may have more than 200.
def floors_reached(things, drops):
    reached = 0
    ways = 1
    for chosen in range(1, things + 1):
        # The product comes first, so that the division leaves nothing over.
        ways = ways * (drops - chosen + 1) // chosen
        reached = reached + ways
    return reached


def fewest_drops(floors, things):
    drops = 0
    while floors_reached(things, drops) < floors:
        drops = drops + 1
    return drops
