"""A search: what is known of the floor by now, drop after drop."""

from eggfloors.cases import check_case
from eggfloors.errors import NoFloor
from eggfloors.reach import choices, fewest


class Search:
    def __init__(self, floors, things):
        check_case(floors, things)
        self.least = 0
        self.greatest = floors
        self.things = things
        self.record = []

    def dropped(self, floor, broken):
        self.check_drop(floor)
        if broken:
            self.greatest = floor - 1
            self.things = self.things - 1
        else:
            self.least = floor
        self.record.append((floor, broken))
        return len(self.record)

    def check_drop(self, floor):
        if self.things == 0:
            raise NoFloor(f"no thing is left for a drop from floor {floor}")
        if floor <= self.least or floor > self.greatest:
            raise NoFloor(f"a drop from floor {floor} tells nothing new, or there is no such floor")

    def span(self):
        return (self.least, self.greatest)

    def left(self):
        return self.things

    # The asker may change the list, so it is a copy.
    def drops(self):
        return list(self.record)

    # What is left of the house is a house itself; the things may be gone, which is no case unless the floor is known.
    def need(self):
        return fewest(self.greatest - self.least, self.things)

    def advice(self):
        firsts = choices(self.greatest - self.least, self.things)
        if firsts is None:
            return None
        return (self.least + firsts[0], self.least + firsts[1])
