"""A floor: how many pieces lie on the belts of a hall while its works turn."""

from ratehall.errors import Empty, NoWork
from ratehall.numbers import is_number_below


class Floor:
    def __init__(self, hall):
        # All that turns need is drawn from the hall now, as nothing put to it later may count here.
        works = len(hall.names())
        self.takes = [takes_of(hall, work) for work in range(works)]
        self.gives = [gives_of(hall, work) for work in range(works)]
        self.heaps = [row[4] for row in hall.belts()]

    def ready(self, work):
        self.need_work(work)
        return enough(self.heaps, self.takes[work])

    def turn(self, work):
        self.go([work])

    def go(self, row):
        # Done on a copy, which is kept only when no turn was refused.
        heaps = list(self.heaps)
        for work in row:
            self.need_work(work)
            if not enough(heaps, self.takes[work]):
                raise Empty("a belt that leads to the work has too few pieces")
            for belt, take in self.takes[work]:
                heaps[belt] -= take
            for belt, give in self.gives[work]:
                heaps[belt] += give
        self.heaps = heaps

    def lying(self):
        return list(self.heaps)

    def need_work(self, work):
        if not is_number_below(work, len(self.takes)):
            raise NoWork("no work of this floor has this number")


def takes_of(hall, work):
    return [(belt, hall.belt_at(belt)[3]) for belt in hall.entering(work)]


def gives_of(hall, work):
    return [(belt, hall.belt_at(belt)[2]) for belt in hall.leaving(work)]


def enough(heaps, takes):
    return all([heaps[belt] >= take for belt, take in takes])
