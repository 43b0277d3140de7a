"""Rounds of a hall, or stops that show that it has none."""

from ratehall.errors import NotBalanced, TooLong
from ratehall.floor import enough, gives_of, takes_of
from ratehall.rates import rates_of

MOST_TURNS = 400


def round_of(hall):
    return Course(hall, round_rates(hall)).told_from(starts_of(hall))


def round_rates(hall):
    rates = rates_of(hall)[0]
    if rates is None:
        raise NotBalanced("the hall has no rates")
    if sum(rates) > MOST_TURNS:
        raise TooLong("a round of the hall has too many turns")
    return rates


def starts_of(hall):
    return [row[4] for row in hall.belts()]


class Course:
    """Rows in which each time, of the ready works that have turns left, the one with the least number turns.

    Turns are how often each work is to turn, from 1 on. What lies on the belts at first is handed in with each
    question, so that one course serves many starts.
    """

    def __init__(self, hall, turns):
        self.turns = list(turns)
        self.rows = hall.belts()
        self.takes = [takes_of(hall, work) for work in range(len(turns))]
        self.gives = [gives_of(hall, work) for work in range(len(turns))]
        self.touched = [touched_by(hall, work) for work in range(len(turns))]

    def told_from(self, starts):
        """The round and None, or None and the stop; the turns are the hall's rates."""
        row = self.row_from(starts)
        if len(row) == sum(self.turns):
            return (row, None)
        counts = [row.count(work) for work in range(len(self.turns))]
        return (None, (counts, self.ring_behind(starts, counts)))

    def row_from(self, starts):
        heaps = list(starts)
        left = list(self.turns)
        able = [enough(heaps, takes) for takes in self.takes]
        row = []
        while True in able:
            work = able.index(True)
            row.append(work)
            left[work] -= 1
            for belt, take in self.takes[work]:
                heaps[belt] -= take
            for belt, give in self.gives[work]:
                heaps[belt] += give
            for other in self.touched[work]:
                able[other] = left[other] > 0 and enough(heaps, self.takes[other])
        return row

    def ring_behind(self, starts, counts):
        waits = self.waits_behind(starts, counts)
        places = {}
        way = []
        work = min(waits)
        # The way never ends: where a belt is short for its taker's next turn, the belt's giver has turns left, too, as
        # the rates bring the belt back; and it isn't ready, so it waits itself.
        while work not in places:
            places[work] = len(way)
            way.append(waits[work])
            work = self.rows[waits[work]][0]
        return way[places[work]:]

    def waits_behind(self, starts, counts):
        """A dict: for each work with turns left the first belt on which lies less than it takes."""
        waits = {}
        for belt, row in enumerate(self.rows):
            lying = starts[belt] + row[2] * counts[row[0]] - row[3] * counts[row[1]]
            if counts[row[1]] < self.turns[row[1]] and lying < row[3]:
                waits.setdefault(row[1], belt)
        return waits


def touched_by(hall, work):
    """The works that a turn of this one can make ready, or no longer ready."""
    return sorted(set([work] + [hall.belt_at(belt)[1] for belt in hall.leaving(work)]))
