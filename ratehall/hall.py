"""Halls: works, and the belts between them."""

from ratehall.errors import NoBelt, NoName, NoRate, NoWork, TooMuch, Twice
from ratehall.names import is_name
from ratehall.numbers import is_from, is_number_below

MOST_WORKS = 30
MOST_BELTS = 60


class Hall:
    def __init__(self):
        # A dict keeps the order in which its keys came, so it tells the names in the order of their numbers, too.
        self.numbers = {}
        self.rows = []

    def work(self, name):
        if not is_name(name):
            raise NoName("a name is a text of one to eight letters from a to z")
        if name in self.numbers:
            raise Twice("a work of this hall has this name")
        if len(self.numbers) >= MOST_WORKS:
            raise TooMuch("the hall has as many works as it may have")
        number = len(self.numbers)
        self.numbers[name] = number
        return number

    def belt(self, giver, taker, give, take, start=0):
        self.need_work(giver)
        self.need_work(taker)
        if not is_from(give, 1) or not is_from(take, 1):
            raise NoRate("what is given and what is taken are numbers from 1 on")
        need_start(start)
        if len(self.rows) >= MOST_BELTS:
            raise TooMuch("the hall has as many belts as it may have")
        return self.lay((giver, taker, give, take, start))

    def lay(self, row):
        # Nothing is refused here: a backed hall has twice as many belts as may be put one by one.
        self.rows.append(row)
        return len(self.rows) - 1

    def fill(self, belt, start):
        self.need_belt(belt)
        need_start(start)
        row = self.rows[belt]
        self.rows[belt] = row[:4] + (start,)
        return row[4] != start

    def names(self):
        return list(self.numbers)

    def number_of(self, name):
        # Asked first, as a thing of another kind may not be a key at all.
        if not is_name(name) or name not in self.numbers:
            raise NoName("no work of this hall is called like this")
        return self.numbers[name]

    def belts(self):
        return list(self.rows)

    def belt_at(self, belt):
        self.need_belt(belt)
        return self.rows[belt]

    def entering(self, work):
        self.need_work(work)
        return [belt for belt, row in enumerate(self.rows) if row[1] == work]

    def leaving(self, work):
        self.need_work(work)
        return [belt for belt, row in enumerate(self.rows) if row[0] == work]

    def need_work(self, work):
        if not is_number_below(work, len(self.numbers)):
            raise NoWork("no work of this hall has this number")

    def need_belt(self, belt):
        if not is_number_below(belt, len(self.rows)):
            raise NoBelt("no belt of this hall has this number")


def hall_of(names, rows):
    """A hall of works called so and of belts told as tuples, which may be more than can be put one by one."""
    hall = Hall()
    for name in names:
        hall.work(name)
    for row in rows:
        hall.lay(row)
    return hall


def need_start(start):
    if not is_from(start, 0):
        raise NoRate("a start is a number from 0 on")
