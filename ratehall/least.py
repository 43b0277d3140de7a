"""Least rooms of a hall, with a table that shows that they are the least."""

from ratehall.rooms import Trial, low_room, need_round, raised_room, with_room


def low_rooms(hall):
    return [low_room(row) for row in hall.belts()]


def raised(hall, rooms, counts, ring):
    belts = hall.belts()
    # The back belts stand behind the hall's own ones, in their order.
    own = [belt - len(belts) for belt in ring if belt >= len(belts)]
    return [with_room(rooms, belt, raised_room(belts[belt], counts)) for belt in own]


def least_rooms(hall):
    # Asked for its refusals alone.
    need_round(hall)
    trial = Trial(hall)
    queue = Queue()
    table = []
    rooms = low_rooms(hall)
    stop = trial.told_within(rooms)[1]
    # All rooms with a round are at least the low rooms, and from rooms without one at least some of the raised ones: so
    # the first rooms with a round that are drawn here are the first of all.
    while stop is not None:
        table.append((rooms, stop[0], stop[1]))
        for more in raised(hall, rooms, stop[0], stop[1]):
            queue.add(more)
        rooms = queue.drawn_first()
        stop = trial.told_within(rooms)[1]
    return (rooms, table)


class Queue:
    """Rooms that are still to be tried: drawn are those whose sum is less, of equal sums those whose list is less.

    What is added has a greater sum than what was drawn last, as raised rooms have: so when the first rooms of a sum are
    drawn, all the others of this sum are there.
    """

    def __init__(self):
        self.by_sum = {}
        self.of_least_sum = []

    def add(self, rooms):
        # Keys of a dict, as no rooms are to come twice.
        of_sum = self.by_sum.setdefault(sum(rooms), {})
        of_sum[tuple(rooms)] = True

    def drawn_first(self):
        if len(self.of_least_sum) == 0:
            self.of_least_sum = sorted(self.by_sum.pop(min(self.by_sum)), reverse=True)
        return list(self.of_least_sum.pop())
