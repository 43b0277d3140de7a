"""Works of a hall put together as one."""

from ratehall.errors import NoWork, Stuck, Twice
from ratehall.hall import hall_of
from ratehall.numbers import divisor, is_number_below
from ratehall.rounds import Course, round_rates, starts_of


class Joint:
    def __init__(self, hall, group):
        need_group(hall, group)
        turns = turns_of(round_rates(hall), sorted(group))
        names = hall.names()
        first = min(turns)
        self.inner_row = inner_row_of(hall, turns)
        # The works of the hall that the joined hall's works are, the joined work among them by its first member.
        self.kept = [work for work in range(len(names)) if work == first or work not in turns]
        self.joined = self.kept.index(first)
        self.called = [names[work] for work in self.kept]
        self.rows = joined_rows(hall, turns, places_of(self.kept, turns))

    def made(self):
        # Made anew each time, as the asker may put works and belts to it.
        return hall_of(self.called, self.rows)

    def place(self):
        return self.joined

    def inner(self):
        return list(self.inner_row)

    def unfolded(self, row):
        works = []
        for work in row:
            if not is_number_below(work, len(self.kept)):
                raise NoWork("no work of the joined hall has this number")
            if work == self.joined:
                works.extend(self.inner_row)
            else:
                works.append(self.kept[work])
        return works


def need_group(hall, group):
    if len(group) == 0:
        raise NoWork("a group has a work or more")
    for work in group:
        hall.need_work(work)
    if len(set(group)) != len(group):
        raise Twice("a group has each of its works once")


def turns_of(rates, members):
    """A dict: for each member, rising, how often it turns in one turn of the group."""
    common = 0
    for member in members:
        common = divisor(common, rates[member])
    turns = {}
    for member in members:
        turns[member] = rates[member] // common
    return turns


def inner_row_of(hall, turns):
    members = list(turns)
    inner = inner_hall(hall, members)
    row = Course(inner, list(turns.values())).row_from(starts_of(inner))
    if len(row) < sum(turns.values()):
        raise Stuck("the group has no inner row")
    return [members[work] for work in row]


def inner_hall(hall, members):
    names = hall.names()
    rows = []
    for row in hall.belts():
        if row[0] in members and row[1] in members:
            rows.append((members.index(row[0]), members.index(row[1])) + row[2:])
    return hall_of([names[member] for member in members], rows)


def places_of(kept, turns):
    """A dict: for each work of the hall its number in the joined hall."""
    places = {}
    for number, work in enumerate(kept):
        places[work] = number
    for member in turns:
        places[member] = places[min(turns)]
    return places


def joined_rows(hall, turns, places):
    rows = []
    for row in hall.belts():
        if row[0] not in turns or row[1] not in turns:
            # In a turn of its own a work that is no member turns once.
            give = row[2] * turns.get(row[0], 1)
            take = row[3] * turns.get(row[1], 1)
            rows.append((places[row[0]], places[row[1]], give, take, row[4]))
    return rows
