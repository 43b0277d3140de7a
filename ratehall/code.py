"""Boxes in which the pieces of a hall with rooms lie, and code that does on them what the works do."""

from ratehall.errors import Empty, NoFit, TooLong
from ratehall.floor import Floor, gives_of, takes_of
from ratehall.mill import form_value, need_forms, need_pieces
from ratehall.numbers import divisor, is_number_below, multiple
from ratehall.rooms import backed, need_rooms
from ratehall.rounds import round_rates, starts_of

MOST_ROWS = 3000


def filled(hall, rooms, pieces):
    need_rooms(hall, rooms)
    need_pieces(hall, pieces)
    boxes = []
    for room, lying in zip(rooms, pieces):
        boxes.extend(lying)
        boxes.extend([0] * (room - len(lying)))
    return boxes


def drawn(hall, rooms, boxes):
    need_rooms(hall, rooms)
    return [boxes[first:first + start] for first, start in zip(first_boxes(rooms), starts_of(hall))]


def first_boxes(rooms):
    """For each belt the number of its first box."""
    firsts = []
    boxes = 0
    for room in rooms:
        firsts.append(boxes)
        boxes += room
    return firsts


def code_of(hall, rooms, row, forms):
    need_forms(hall, forms)
    rates = round_rates(hall)
    need_rooms(hall, rooms)
    need_fit(hall, rooms, rates, row)
    laps = need_laps(hall, rooms, rates)
    writer = Writer(hall, rooms)
    code = []
    for lap in range(laps):
        for work in row:
            code.extend(writer.rows_for(work, forms[work]))
    return (laps, code)


def need_fit(hall, rooms, rates, row):
    if not all([is_number_below(work, len(rates)) for work in row]):
        raise NoFit("the row has a number of no work")
    if [row.count(work) for work in range(len(rates))] != rates:
        raise NoFit("in a round each work turns as often as its rate")
    try:
        Floor(backed(hall, rooms)).go(row)
    except Empty:
        raise NoFit("a belt of the row is short of pieces, or of room") from None


def need_laps(hall, rooms, rates):
    """The laps, where the code isn't too long; there is a round within the rooms."""
    given = [row[2] * rates[row[0]] for row in hall.belts()]
    laps = 1
    for room, many in zip(rooms, given):
        laps = multiple(laps, room // divisor(room, many))
    if laps * sum(given) > MOST_ROWS:
        raise TooLong("the code would have too many rows")
    return laps


def run(code, boxes):
    lying = list(boxes)
    for box, constant, terms in code:
        # A row's terms name boxes as a form's terms name slots.
        lying[box] = form_value((constant, terms), lying)
    return lying


class Writer:
    """Writes the rows of one turn behind another, and keeps how many pieces were given and taken on each belt."""

    def __init__(self, hall, rooms):
        works = len(hall.names())
        self.takes = [takes_of(hall, work) for work in range(works)]
        self.gives = [gives_of(hall, work) for work in range(works)]
        self.rooms = list(rooms)
        self.firsts = first_boxes(rooms)
        self.given = starts_of(hall)
        self.taken = [0 for room in rooms]

    def rows_for(self, work, forms):
        slots = []
        for belt, take in self.takes[work]:
            slots.extend(self.boxes_of(belt, self.taken[belt], take))
            self.taken[belt] += take
        boxes = []
        for belt, give in self.gives[work]:
            boxes.extend(self.boxes_of(belt, self.given[belt], give))
            self.given[belt] += give
        return [row_of(box, form, slots) for box, form in zip(boxes, forms)]

    def boxes_of(self, belt, piece, many):
        """The boxes of so many pieces of the belt, from this one on."""
        return [self.firsts[belt] + number % self.rooms[belt] for number in range(piece, piece + many)]


def row_of(box, form, slots):
    return (box, form[0], tuple([(slots[slot], factor) for slot, factor in form[1]]))
