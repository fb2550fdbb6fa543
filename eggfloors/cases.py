"""Which houses and things there may be: the bounds that several parts share."""

from eggfloors.errors import NoCase

MOST_THINGS = 12
MOST_FLOORS = 1000
MOST_TREE_FLOORS = 60


def check_things(things):
    if things < 0 or things > MOST_THINGS:
        raise NoCase(f"things are 0 to {MOST_THINGS}, not {things}")


def check_case(floors, things):
    check_house(floors, things, MOST_FLOORS)


# A tree grows with its house, so trees have a lower bound than numbers have.
def check_tree_case(floors, things):
    check_house(floors, things, MOST_TREE_FLOORS)


def check_house(floors, things, most):
    check_things(things)
    if floors < 0 or floors > most:
        raise NoCase(f"floors are 0 to {most}, not {floors}")
    if floors > 0 and things == 0:
        raise NoCase("a house with floors needs a thing")
