"""Rooms: how many pieces the belts of a hall can hold."""

from ratehall.errors import NoRoom, Stuck
from ratehall.floor import Floor
from ratehall.hall import hall_of
from ratehall.numbers import is_from
from ratehall.rounds import Course, round_of, round_rates, starts_of


def backed(hall, rooms):
    need_rooms(hall, rooms)
    belts = hall.belts()
    return hall_of(hall.names(), belts + [back_of(row, room) for row, room in zip(belts, rooms)])


def need_rooms(hall, rooms):
    starts = starts_of(hall)
    if not isinstance(rooms, (list, tuple)) or len(rooms) != len(starts):
        raise NoRoom("rooms are a number for each belt")
    if not all([is_from(room, start) for room, start in zip(rooms, starts)]):
        raise NoRoom("a room is a number, and at least its belt's start")


def back_of(row, room):
    return (row[1], row[0], row[3], row[2], room - row[4])


def peaks(hall, row):
    # Done on a floor for its refusals alone.
    Floor(hall).go(row)
    return [peak_of(belt_row, row) for belt_row in hall.belts()]


def peak_of(row, works):
    """The least room of one belt with which these works, one behind another, can turn."""
    peak = row[4]
    lying = row[4]
    for work in works:
        if work == row[0]:
            # Ahead of what the same turn may take from it.
            peak = max(peak, lying + row[2])
            lying += row[2]
        if work == row[1]:
            lying -= row[3]
    return peak


def fitting(hall, rooms):
    # Asked for its refusals alone: they come ahead of those of the rooms.
    round_rates(hall)
    return round_of(backed(hall, rooms))


def lean_rooms(hall):
    rooms = peaks(hall, need_round(hall))
    trial = Trial(hall)
    for belt in range(len(hall.belts())):
        rooms = with_room(rooms, belt, trial.least_room(rooms, belt))
    return (rooms, [trial.stop_below(rooms, belt) for belt in range(len(rooms))])


def need_round(hall):
    row = round_of(hall)[0]
    if row is None:
        raise Stuck("the hall has no round")
    return row


def with_room(rooms, belt, room):
    others = list(rooms)
    others[belt] = room
    return others


def low_room(row):
    return max(row[2:])


def raised_room(row, counts):
    return row[4] + row[2] * (counts[row[0]] + 1) - row[3] * counts[row[1]]


class Trial:
    """Tries rooms of a hall with rates, one after another.

    The backed halls of one hall differ in the starts of their back belts alone, so one course serves them all.
    """

    def __init__(self, hall):
        self.rows = hall.belts()
        self.starts = starts_of(hall)
        self.course = Course(backed(hall, self.starts), round_rates(hall))

    def told_within(self, rooms):
        return self.course.told_from(self.starts + [room - start for room, start in zip(rooms, self.starts)])

    def least_room(self, rooms, belt):
        """How little the room of this belt can be, the others as they are; there is a round within these rooms."""
        low = low_room(self.rows[belt])
        high = rooms[belt]
        while low < high:
            told = self.told_within(with_room(rooms, belt, (low + high) // 2))
            if told[1] is None:
                high = peak_of(self.rows[belt], told[0])
            else:
                # There is a round with more room on this belt alone, so its back belt is in the stop's ring.
                low = raised_room(self.rows[belt], told[1][0])
        return high

    def stop_below(self, rooms, belt):
        if rooms[belt] == self.starts[belt]:
            return None
        return self.told_within(with_room(rooms, belt, rooms[belt] - 1))[1]
