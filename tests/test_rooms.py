import random
import time
import unittest
from math import gcd
from string import ascii_lowercase

from ratehall.errors import Empty, NoRoom, NotBalanced, NoWork, RateError, Stuck, TooLong
from ratehall.floor import Floor
from ratehall.hall import MOST_BELTS, Hall
from ratehall.pieces import pieces_of
from ratehall.rates import change_of, rates_of
from ratehall.rooms import backed, fitting, lean_rooms, peaks
from ratehall.rounds import round_of

LONG = 10 ** 30 - 1
NO_NUMBERS = (None, "9", [9], (9,), True, False)
NOT_BALANCED = [(0, 1, 1, 1), (0, 1, 1, 2)]
TOO_LONG = [(0, 1, 1, 400), (0, 1, 1, 400)]
STUCK = [(0, 1, 1, 1), (1, 0, 1, 1)]


def hall_of(works, belts=()):
    """A hall of so many works; belts are laid, so that there may be as many as a backed hall has."""
    hall = Hall()
    for number in range(works):
        hall.work(ascii_lowercase[number // 26] + ascii_lowercase[number % 26])
    for belt in belts:
        hall.lay(tuple(belt) + (0,) * (5 - len(belt)))
    return hall


def chance_hall(chance, most_works, most_belts, most_rate, starts, most_often=2):
    """Belts that fit rates drawn ahead."""
    works = chance.randrange(1, most_works + 1)
    rates = [chance.randrange(1, most_rate + 1) for work in range(works)]
    rows = []
    for belt in range(chance.randrange(most_belts + 1)):
        giver, taker = chance.randrange(works), chance.randrange(works)
        common, often = gcd(rates[giver], rates[taker]), chance.randrange(1, most_often + 1)
        rows.append((giver, taker, rates[taker] // common * often, rates[giver] // common * often, chance.choice(starts)))
    return hall_of(works, rows)


def one_way_hall(chance, works, belts, rates):
    """Belts from lesser works to greater ones alone, so that there is a round."""
    rows = []
    for belt in range(belts):
        giver, taker = sorted(chance.sample(range(works), 2))
        common = gcd(rates[giver], rates[taker])
        give, take = rates[taker] // common, rates[giver] // common
        often = chance.randrange(1, 1000 // max(give, take) + 1)
        rows.append((giver, taker, give * often, take * often, chance.choice((0, 0, chance.randrange(1001)))))
    return hall_of(works, rows)


def told(hall):
    return (hall.names(), hall.belts())


def is_ready_within(hall, rooms, lying, work):
    """As the document's words tell it, without any back belts."""
    for belt, (giver, taker, give, take, start) in enumerate(hall.belts()):
        if taker == work and lying[belt] < take:
            return False
        if giver == work and rooms[belt] - lying[belt] < give:
            return False
    return True


def lying_behind(hall, counts):
    return [start + give * counts[giver] - take * counts[taker] for giver, taker, give, take, start in hall.belts()]


def row_within(hall, rooms):
    """The row of the least ready works with turns left, and its counts."""
    rates = rates_of(hall)[0]
    counts = [0] * len(rates)
    row = []
    while True:
        lying = lying_behind(hall, counts)
        free = [work for work in range(len(rates))
                if counts[work] < rates[work] and is_ready_within(hall, rooms, lying, work)]
        if not free:
            return row, counts
        row.append(free[0])
        counts[free[0]] += 1


def is_enough(hall, rooms):
    if any(room < row[4] for room, row in zip(rooms, hall.belts())):
        return False
    return len(row_within(hall, rooms)[0]) == sum(rates_of(hall)[0])


def is_enough_by_all_rows(hall, rooms):
    """Told by going through all counts to which turns can lead."""
    rates = rates_of(hall)[0]
    reached = {(0,) * len(rates)}
    new = list(reached)
    while new:
        counts = new.pop()
        lying = lying_behind(hall, counts)
        for work, rate in enumerate(rates):
            if counts[work] < rate and is_ready_within(hall, rooms, lying, work):
                more = counts[:work] + (counts[work] + 1,) + counts[work + 1:]
                if more not in reached:
                    reached.add(more)
                    new.append(more)
    return tuple(rates) in reached


def plain_backed(hall, rooms):
    belts = hall.belts()
    for (giver, taker, give, take, start), room in zip(hall.belts(), rooms):
        belts.append((taker, giver, take, give, room - start))
    return hall_of(len(hall.names()), belts)


def plain_peaks(hall, row):
    """The starts, made more, piece by piece, wherever a turn of the row has too little room."""
    rooms = [belt[4] for belt in hall.belts()]
    counts = [0] * len(hall.names())
    for work in row:
        lying = lying_behind(hall, counts)
        for belt, (giver, taker, give, take, start) in enumerate(hall.belts()):
            while giver == work and rooms[belt] - lying[belt] < give:
                rooms[belt] += 1
        counts[work] += 1
    return rooms


def plain_lean_rooms(hall):
    rooms = plain_peaks(hall, round_of(hall)[0])
    for belt in range(len(rooms)):
        rooms[belt] = hall.belt_at(belt)[4]
        while not is_enough(hall, rooms):
            rooms[belt] += 1
    return rooms


class RoomCase(unittest.TestCase):
    def check_refused(self, refusal, ask, hall, *handed_in):
        before = told(hall)
        copies = [list(thing) if isinstance(thing, list) else thing for thing in handed_in]
        with self.subTest(ask=ask.__name__, belts=hall.belts(), handed_in=handed_in):
            with self.assertRaises(refusal) as refused:
                ask(hall, *handed_in)
            self.assertIs(type(refused.exception), refusal)
            self.assertEqual(told(hall), before)
            self.assertEqual(list(handed_in), copies)

    def check_stop(self, hall, stop):
        """The hall is the backed hall that the stop is of."""
        self.assertIs(type(stop), tuple)
        self.assertEqual(len(stop), 2)
        counts, ring = stop
        self.assertEqual((type(counts), type(ring)), (list, list))
        rates = rates_of(hall)[0]
        self.assertEqual(counts, row_within(hall, [10 ** 40] * len(hall.belts()))[1])
        self.assertGreater(len(ring), 0)
        self.assertEqual(len(set(ring)), len(ring))
        lying = lying_behind(hall, counts)
        for place, belt in enumerate(ring):
            self.assertIs(type(belt), int)
            giver, taker, give, take, start = hall.belt_at(belt)
            self.assertEqual(hall.belt_at(ring[place - 1])[0], taker)
            self.assertLess(counts[taker], rates[taker])
            self.assertLess(lying[belt], take)


class TestBacked(RoomCase):
    def check_backed(self, hall, rooms, expected):
        before = (told(hall), list(rooms))
        new = backed(hall, rooms)
        self.assertIs(type(new), Hall)
        self.assertIsNot(new, hall)
        self.assertEqual(new.names(), hall.names())
        self.assertEqual(new.belts(), hall.belts() + expected)
        self.assertEqual([type(row) for row in new.belts()], [tuple] * len(new.belts()))
        self.assertEqual((told(hall), list(rooms)), before)
        return new

    def test_no_works_and_no_belts(self):
        self.check_backed(Hall(), [], [])
        self.check_backed(hall_of(3), [], [])

    def test_back_belts_stand_behind_in_the_order_of_their_belts(self):
        hall = hall_of(3, [(0, 1, 2, 3, 4), (2, 0, 5, 6, 0), (1, 2, 7, 8, 9)])
        self.check_backed(hall, [10, 11, 12], [(1, 0, 3, 2, 6), (0, 2, 6, 5, 11), (2, 1, 8, 7, 3)])

    def test_rooms_that_are_the_starts(self):
        hall = hall_of(2, [(0, 1, 2, 3, 4), (1, 0, 3, 2, 0)])
        self.check_backed(hall, [4, 0], [(1, 0, 3, 2, 0), (0, 1, 2, 3, 0)])

    def test_from_a_work_to_itself(self):
        self.check_backed(hall_of(1, [(0, 0, 2, 3, 4)]), [9], [(0, 0, 3, 2, 5)])

    def test_names_stay(self):
        hall = Hall()
        for name in ("press", "a", "saw"):
            hall.work(name)
        hall.belt(2, 0, 1, 2, 1)
        new = self.check_backed(hall, [5], [(0, 2, 2, 1, 4)])
        self.assertEqual(new.number_of("saw"), 2)

    def test_halls_without_rates(self):
        self.check_backed(hall_of(2, NOT_BALANCED), [3, 4], [(1, 0, 1, 1, 3), (1, 0, 2, 1, 4)])

    def test_thirty_figures(self):
        hall = hall_of(2, [(0, 1, LONG, LONG, 1)])
        self.check_backed(hall, [LONG], [(1, 0, LONG, LONG, LONG - 1)])

    def test_no_room(self):
        hall = hall_of(2, [(0, 1, 1, 1, 4), (1, 0, 1, 1, 0)])
        for rooms in ([], [9], [9, 9, 9], [3, 0], [4, -1], [-1, 9], [0, 0], [-LONG, 9], [LONG]):
            self.check_refused(NoRoom, backed, hall, rooms)
        for thing in NO_NUMBERS:
            self.check_refused(NoRoom, backed, hall, [9, thing])
            self.check_refused(NoRoom, backed, hall, [thing, 9])
        for thing in (None, 9, "99", True):
            self.check_refused(NoRoom, backed, hall, thing)
        self.check_refused(NoRoom, backed, Hall(), [0])
        self.check_refused(NoRoom, backed, hall_of(2), [1])
        self.check_refused(NoRoom, backed, hall_of(2, NOT_BALANCED), [0])

    def test_one_less_than_a_start_anywhere(self):
        starts = [5, 0, 7, 1]
        hall = hall_of(2, [(0, 1, 1, 1, start) for start in starts])
        self.check_backed(hall, starts, [(1, 0, 1, 1, 0)] * 4)
        for belt in range(4):
            rooms = list(starts)
            rooms[belt] -= 1
            self.check_refused(NoRoom, backed, hall, rooms)

    def test_the_halls_stand_by_themselves(self):
        hall = hall_of(2, [(0, 1, 2, 3, 4)])
        new = backed(hall, [9])
        after = told(new)
        hall.fill(0, 5)
        hall.belt(1, 0, 1, 1)
        hall.work("more")
        self.assertEqual(told(new), after)
        before = told(hall)
        new.fill(0, 7)
        new.fill(1, 8)
        new.work("another")
        new.belt(2, 0, 1, 1)
        self.assertEqual(told(hall), before)
        self.assertEqual(new.belts(), [(0, 1, 2, 3, 7), (1, 0, 3, 2, 8), (2, 0, 1, 1, 0)])

    def test_the_rooms_stand_by_themselves(self):
        hall = hall_of(2, [(0, 1, 2, 3, 4), (1, 0, 3, 2, 0)])
        rooms = [9, 9]
        new = backed(hall, rooms)
        rooms[0] = 4
        rooms.append(7)
        self.assertEqual(new.belts()[2:], [(1, 0, 3, 2, 5), (0, 1, 2, 3, 9)])

    def test_sixty_belts_become_a_hundred_and_twenty(self):
        hall = hall_of(3, [(belt % 3, (belt + 1) % 3, 1, 1, belt) for belt in range(MOST_BELTS)])
        expected = [((belt + 1) % 3, belt % 3, 1, 1, 100 - belt) for belt in range(MOST_BELTS)]
        new = self.check_backed(hall, [100] * MOST_BELTS, expected)
        self.assertEqual(len(new.belts()), 120)
        self.assertEqual(new.belt_at(119), (0, 2, 1, 1, 41))
        self.assertEqual(pieces_of(new), [[0, 1, 2]])
        self.assertEqual(rates_of(new), ([1, 1, 1], None))
        self.assertEqual(change_of(new, [1, 0, 0])[60:63], [-1, 0, 1])
        self.assertEqual(Floor(new).lying(), list(range(60)) + list(range(100, 40, -1)))
        self.assertEqual(round_of(new)[1], None)
        self.assertIs(new.fill(119, 0), True)
        self.assertEqual(round_of(new)[1], None)
        self.check_stop(backed(hall, list(range(MOST_BELTS))), fitting(hall, list(range(MOST_BELTS)))[1])

    def test_names_pieces_rates_and_floors_of_backed_halls(self):
        chance = random.Random(17)
        for turn in range(200):
            hall = chance_hall(chance, 5, 7, 4, (0, 1, 2, 3, 5, 8))
            rooms = [row[4] + chance.randrange(12) for row in hall.belts()]
            new = backed(hall, rooms)
            belts = len(rooms)
            with self.subTest(belts=hall.belts(), rooms=rooms):
                self.assertEqual(told(new), told(plain_backed(hall, rooms)))
                self.assertEqual(pieces_of(new), pieces_of(hall))
                self.assertEqual(rates_of(new), rates_of(hall))
                floor = Floor(new)
                counts = [0] * len(new.names())
                for often in range(10):
                    lying = floor.lying()
                    self.assertEqual([one + other for one, other in zip(lying[:belts], lying[belts:])], rooms)
                    free = [work for work in range(len(counts)) if is_ready_within(hall, rooms, lying[:belts], work)]
                    self.assertEqual(free, [work for work in range(len(counts)) if floor.ready(work)])
                    if not free:
                        break
                    work = chance.choice(free)
                    floor.turn(work)
                    counts[work] += 1
                change = change_of(hall, counts)
                self.assertEqual(change_of(new, counts), change + [-more for more in change])

    def test_backed_halls_without_rates(self):
        new = backed(hall_of(2, NOT_BALANCED), [5, 5])
        rates, ring = rates_of(new)
        self.assertIsNone(rates)
        self.assertGreater(len(ring), 0)
        with self.assertRaises(NotBalanced):
            round_of(new)
        with self.assertRaises(TooLong):
            round_of(backed(hall_of(2, TOO_LONG), [5, 5]))


class TestPeaks(RoomCase):
    def check_peaks(self, hall, row, expected=None):
        before = (told(hall), list(row))
        rooms = peaks(hall, row)
        self.assertIs(type(rooms), list)
        self.assertEqual((told(hall), row), before)
        self.assertEqual(rooms, plain_peaks(hall, row))
        if expected is not None:
            self.assertEqual(rooms, expected)
        Floor(backed(hall, rooms)).go(row)
        for belt, room in enumerate(rooms):
            if room > hall.belt_at(belt)[4]:
                less = rooms[:belt] + [room - 1] + rooms[belt + 1:]
                with self.assertRaises(Empty):
                    Floor(backed(hall, less)).go(row)

    def test_the_empty_row(self):
        self.check_peaks(Hall(), [], [])
        self.check_peaks(hall_of(2), [], [])
        self.check_peaks(hall_of(2, [(0, 1, 2, 3, 4), (1, 0, 9, 9, 0), (0, 0, 5, 5, LONG)]), [], [4, 0, LONG])

    def test_rows(self):
        hall = hall_of(2, [(0, 1, 2, 3)])
        self.check_peaks(hall, [0], [2])
        self.check_peaks(hall, [0, 0, 1], [4])
        self.check_peaks(hall, [0, 0, 1, 0, 1], [4])
        self.check_peaks(hall, [0, 0, 0, 1, 1], [6])
        self.check_peaks(hall, [0, 0, 1, 0, 1] * 600, [4])

    def test_the_start_may_be_the_greatest(self):
        hall = hall_of(2, [(0, 1, 2, 3, 9)])
        self.check_peaks(hall, [1, 1, 0], [9])
        self.check_peaks(hall, [1, 0, 0], [10])
        self.check_peaks(hall, [1, 1, 1, 0, 0, 0, 1, 1], [9])

    def test_a_belt_whose_giver_does_not_turn(self):
        self.check_peaks(hall_of(3, [(0, 1, 2, 3, 9), (2, 1, 1, 1, 7)]), [1, 0, 0], [10, 7])

    def test_from_a_work_to_itself(self):
        self.check_peaks(hall_of(1, [(0, 0, 2, 2, 2)]), [0], [4])
        self.check_peaks(hall_of(1, [(0, 0, 2, 2, 2)]), [0, 0, 0], [4])
        self.check_peaks(hall_of(1, [(0, 0, 1, 3, 7)]), [0, 0], [8])
        self.check_peaks(hall_of(1, [(0, 0, 5, 3, 3)]), [0, 0], [10])

    def test_halls_without_rates(self):
        self.check_peaks(hall_of(2, [(0, 1, 1, 1), (0, 1, 1, 2)]), [0, 0, 1, 0], [2, 2])

    def test_thirty_figures(self):
        self.check_peaks(hall_of(2, [(0, 1, 3, 1, 0)]), [0, 1, 1, 0], [4])
        hall = hall_of(2, [(0, 1, LONG, LONG, LONG)])
        self.assertEqual(peaks(hall, [0, 0, 1]), [3 * LONG])

    def test_refused_as_the_floor_does(self):
        hall = hall_of(2, [(0, 1, 1, 1)])
        for row in ([1], [0, 1, 1], [1, 2], [0, 1, 1, -1]):
            self.check_refused(Empty, peaks, hall, row)
        for row in ([2], [-1], [0, 1, 2, 1, 1], [0, LONG], [0, -2], [2, 1]):
            self.check_refused(NoWork, peaks, hall, row)
        for thing in NO_NUMBERS:
            self.check_refused(NoWork, peaks, hall, [0, thing])
        self.check_refused(NoWork, peaks, Hall(), [0])

    def test_rows_of_any_kind(self):
        chance = random.Random(18)
        done = 0
        for turn in range(400):
            hall = chance_hall(chance, 4, 5, 4, (0, 1, 2, 3, 5, 8))
            row = [chance.randrange(len(hall.names())) for work in range(chance.randrange(6))]
            refusal = None
            try:
                Floor(hall).go(row)
            except RateError as error:
                refusal = type(error)
            with self.subTest(belts=hall.belts(), row=row):
                if refusal is None:
                    self.check_peaks(hall, row)
                    done += 1
                else:
                    self.check_refused(refusal, peaks, hall, row)
        self.assertTrue(100 < done < 300)

    def test_lists_stand_by_themselves(self):
        hall = hall_of(2, [(0, 1, 2, 3)])
        row = [0, 0, 1]
        rooms = peaks(hall, row)
        rooms[0] = 99
        row.clear()
        hall.fill(0, 3)
        self.assertEqual(rooms, [99])
        self.assertEqual(peaks(hall, [0, 0, 1]), [7])


class TestFitting(RoomCase):
    def check_fitting(self, hall, rooms, expected=None):
        before = (told(hall), list(rooms))
        answer = fitting(hall, rooms)
        self.assertEqual((told(hall), rooms), before)
        self.assertIs(type(answer), tuple)
        self.assertEqual(len(answer), 2)
        row, stop = answer
        if is_enough(hall, rooms):
            self.assertIsNone(stop)
            self.assertIs(type(row), list)
            self.assertEqual(row, row_within(hall, rooms)[0])
        else:
            self.assertIsNone(row)
            self.check_stop(plain_backed(hall, rooms), stop)
            self.assertEqual(stop[0], row_within(hall, rooms)[1])
        self.assertEqual(answer, round_of(backed(hall, rooms)))
        if expected is not None:
            self.assertEqual(row, expected)
        return answer

    def test_no_belts(self):
        self.assertEqual(fitting(Hall(), []), ([], None))
        self.assertEqual(fitting(hall_of(2), []), ([0, 1], None))

    def test_rounds_within_rooms(self):
        hall = hall_of(2, [(0, 1, 2, 3)])
        self.check_fitting(hall, [4], [0, 0, 1, 0, 1])
        self.check_fitting(hall, [5], [0, 0, 1, 0, 1])
        self.check_fitting(hall, [6], [0, 0, 0, 1, 1])
        self.check_fitting(hall, [LONG], [0, 0, 0, 1, 1])

    def test_stops(self):
        hall = hall_of(2, [(0, 1, 2, 3)])
        self.assertEqual(self.check_fitting(hall, [3])[1][0], [1, 0])
        self.assertEqual(sorted(self.check_fitting(hall, [3])[1][1]), [0, 1])
        self.assertEqual(self.check_fitting(hall, [0])[1][0], [0, 0])
        self.assertEqual(self.check_fitting(hall_of(2, STUCK), [LONG, LONG])[1][0], [0, 0])

    def test_from_a_work_to_itself(self):
        hall = hall_of(1, [(0, 0, 3, 3, 3)])
        self.check_fitting(hall, [6], [0])
        self.assertEqual(self.check_fitting(hall, [5])[1], ([0], [1]))
        self.assertEqual(self.check_fitting(hall_of(1, [(0, 0, 3, 3, 2)]), [9])[1], ([0], [0]))

    def test_refusals_in_their_order(self):
        for rooms in ([], [9], [9, 9], [9, 9, 9], [-1, 9]):
            self.check_refused(NotBalanced, fitting, hall_of(2, NOT_BALANCED), rooms)
            self.check_refused(TooLong, fitting, hall_of(2, TOO_LONG), rooms)
        self.check_refused(NotBalanced, fitting, hall_of(3, NOT_BALANCED + [(0, 2, 1, 500)]), [])
        for belts in (STUCK, [(0, 1, 1, 1), (0, 1, 1, 1)]):
            for rooms in ([], [9], [9, 9, 9], [-1, 9], [9, -1]):
                self.check_refused(NoRoom, fitting, hall_of(2, belts), rooms)
            for thing in NO_NUMBERS:
                self.check_refused(NoRoom, fitting, hall_of(2, belts), [thing, 9])
        self.check_refused(NoRoom, fitting, hall_of(2, [(0, 1, 1, 1, 5)]), [4])
        self.check_refused(NoRoom, fitting, Hall(), [0])

    def test_four_hundred_turns(self):
        hall = hall_of(2, [(0, 1, 1, 399)])
        self.check_fitting(hall, [399], [0] * 399 + [1])
        self.check_fitting(hall, [398])
        self.check_refused(TooLong, fitting, hall_of(2, [(0, 1, 1, 400)]), [400])

    def test_halls_and_rooms_of_any_kind(self):
        chance = random.Random(19)
        found = {True: 0, False: 0}
        for turn in range(500):
            hall = chance_hall(chance, 4, 5, 4, (0, 1, 2, 3, 5, 8))
            rooms = [max(row[4], row[2], row[3]) + chance.randrange(6) for row in hall.belts()]
            with self.subTest(belts=hall.belts(), rooms=rooms):
                answer = self.check_fitting(hall, rooms)
                self.assertEqual(answer[1] is None, is_enough_by_all_rows(hall, rooms))
            found[answer[1] is None] += 1
        self.assertGreater(min(found.values()), 100)

    def test_a_round_within_rooms_needs_no_more_than_the_rooms(self):
        chance = random.Random(20)
        rounds = 0
        for turn in range(300):
            hall = chance_hall(chance, 4, 5, 4, (0, 1, 2, 3, 5, 8))
            rooms = [max(row[4], row[2], row[3]) + chance.randrange(6) for row in hall.belts()]
            row, stop = fitting(hall, rooms)
            if row is not None:
                rounds += 1
                self.assertTrue(all(peak <= room for peak, room in zip(peaks(hall, row), rooms)))
        self.assertGreater(rounds, 60)

    def test_lists_stand_by_themselves(self):
        hall = hall_of(2, [(0, 1, 2, 3)])
        rooms = [3]
        counts, ring = fitting(hall, rooms)[1]
        rooms[0] = 99
        counts.clear()
        ring.append(7)
        self.check_fitting(hall, [3])
        row = fitting(hall, [4])[0]
        row.clear()
        self.check_fitting(hall, [4], [0, 0, 1, 0, 1])
        row = fitting(hall, [4])[0]
        hall.fill(0, 1)
        self.assertEqual(row, [0, 0, 1, 0, 1])


class TestLeanRooms(RoomCase):
    def check_lean(self, hall, expected=None):
        """That the rooms are enough, that none can be less, and that the stops show it."""
        before = told(hall)
        answer = lean_rooms(hall)
        self.assertEqual(told(hall), before)
        self.assertIs(type(answer), tuple)
        self.assertEqual(len(answer), 2)
        rooms, stops = answer
        self.assertEqual((type(rooms), type(stops)), (list, list))
        self.assertEqual((len(rooms), len(stops)), (len(hall.belts()), len(hall.belts())))
        self.assertEqual([type(room) for room in rooms], [int] * len(rooms))
        self.assertTrue(is_enough(hall, rooms))
        for belt, stop in enumerate(stops):
            if rooms[belt] == hall.belt_at(belt)[4]:
                self.assertIsNone(stop)
            else:
                less = rooms[:belt] + [rooms[belt] - 1] + rooms[belt + 1:]
                self.assertFalse(is_enough(hall, less))
                self.check_stop(plain_backed(hall, less), stop)
        if expected is not None:
            self.assertEqual(rooms, expected)
        return answer

    def test_no_belts(self):
        self.assertEqual(lean_rooms(Hall()), ([], []))
        self.assertEqual(lean_rooms(hall_of(3)), ([], []))

    def test_one_belt(self):
        self.check_lean(hall_of(2, [(0, 1, 2, 3)]), [4])
        self.check_lean(hall_of(2, [(0, 1, 4, 6)]), [8])
        self.check_lean(hall_of(2, [(0, 1, 1, 1)]), [1])
        self.check_lean(hall_of(2, [(0, 1, 5, 5, 1)]), [6])
        self.check_lean(hall_of(2, [(0, 1, 5, 7)]), [11])
        self.check_lean(hall_of(2, [(0, 1, 5, 7, 100)]), [100])

    def test_none_where_the_room_is_the_start(self):
        rooms, stops = self.check_lean(hall_of(3, [(0, 1, 1, 1, 1), (0, 2, 1, 1)]), [1, 1])
        self.assertIsNone(stops[0])
        self.assertEqual(stops[1][0], [0, 1, 0])
        self.assertEqual(sorted(stops[1][1]), [1, 3])
        self.assertEqual(self.check_lean(hall_of(2, [(0, 1, 1, 1, 1), (0, 1, 1, 1, 1)])), ([1, 1], [None, None]))
        rooms, stops = self.check_lean(hall_of(2, [(0, 1, 1, 1, 1), (0, 1, 1, 1)]), [2, 1])
        self.assertNotIn(None, stops)

    def test_from_a_work_to_itself(self):
        rooms, stops = self.check_lean(hall_of(1, [(0, 0, 3, 3, 3)]), [6])
        self.assertEqual(stops, [([0], [1])])
        self.check_lean(hall_of(2, [(0, 0, 3, 3, 4), (0, 1, 2, 1)]), [7, 2])

    def test_belt_by_belt_in_their_order(self):
        # Two ways from the first work to the last: room saved on the belts that come first is spent on the later ones.
        one_way = [(0, 1, 1, 1), (1, 3, 1, 3), (0, 2, 1, 3), (2, 3, 3, 3)]
        self.check_lean(hall_of(4, one_way), plain_lean_rooms(hall_of(4, one_way)))
        differ = 0
        for seed in range(60):
            chance = random.Random(seed)
            hall = chance_hall(chance, 4, 5, 4, (0, 1, 2, 3, 5, 8))
            if round_of(hall)[0] is None:
                continue
            turned = hall_of(len(hall.names()), list(reversed(hall.belts())))
            rooms = self.check_lean(hall, plain_lean_rooms(hall))[0]
            others = self.check_lean(turned, plain_lean_rooms(turned))[0]
            differ += rooms != list(reversed(others))
        self.assertGreater(differ, 0)

    def test_halls_of_any_kind(self):
        chance = random.Random(21)
        rounds = 0
        while rounds < 250:
            hall = chance_hall(chance, 4, 6, 4, (0, 1, 2, 3, 5, 8))
            if round_of(hall)[0] is None:
                self.check_refused(Stuck, lean_rooms, hall)
                continue
            rounds += 1
            with self.subTest(belts=hall.belts()):
                rooms = self.check_lean(hall)[0]
                self.assertEqual(rooms, plain_lean_rooms(hall))
                told_peaks = peaks(hall, round_of(hall)[0])
                self.assertTrue(all(room <= peak for room, peak in zip(rooms, told_peaks)))

    def test_gives_takes_and_starts_of_a_thousand(self):
        self.check_lean(hall_of(2, [(0, 1, 1000, 1000, 999)]), [1999])
        self.check_lean(hall_of(2, [(0, 1, 1000, 990)]), [1980])
        self.check_lean(hall_of(3, [(0, 1, 1000, 500, 1000), (1, 2, 500, 1000, 3), (0, 2, 1000, 1000)]))
        chance = random.Random(22)
        rounds = 0
        while rounds < 12:
            hall = chance_hall(chance, 4, 6, 6, (0, 17, 250, 999, 1000), 160)
            if hall.belts() and round_of(hall)[0] is not None:
                rounds += 1
                with self.subTest(belts=hall.belts()):
                    self.check_lean(hall)

    def test_the_largest_halls_in_little_time(self):
        chance = random.Random(23)
        rates = [1] + [2, 4, 8, 16] * 6 + [64, 64, 30, 31, 30]
        self.assertEqual((len(rates), sum(rates)), (30, 400))
        hall = one_way_hall(chance, 30, MOST_BELTS, rates)
        self.assertEqual(rates_of(hall)[0], rates)
        began = time.monotonic()
        self.check_lean(hall)
        rooms = self.check_lean(hall_of(2, [(0, 1, 201, 199)] * MOST_BELTS))[0]
        self.assertEqual(rooms, [399] * MOST_BELTS)
        self.assertLess(time.monotonic() - began, 120)

    def test_refusals_in_their_order(self):
        self.check_refused(NotBalanced, lean_rooms, hall_of(2, NOT_BALANCED))
        self.check_refused(NotBalanced, lean_rooms, hall_of(3, NOT_BALANCED + [(0, 2, 1, 500)]))
        self.check_refused(NotBalanced, lean_rooms, hall_of(4, NOT_BALANCED + [(2, 3, 1, 1), (3, 2, 1, 1)]))
        self.check_refused(TooLong, lean_rooms, hall_of(2, TOO_LONG))
        self.check_refused(TooLong, lean_rooms, hall_of(2, [(0, 1, 1, 400), (1, 0, 400, 1)]))
        self.check_refused(Stuck, lean_rooms, hall_of(2, STUCK))
        self.check_refused(Stuck, lean_rooms, hall_of(2, [(0, 1, 1, 399), (1, 0, 399, 1, 398)]))
        self.check_refused(Stuck, lean_rooms, hall_of(1, [(0, 0, 1000, 1000, 999)]))
        self.check_refused(Stuck, lean_rooms, hall_of(2, STUCK * 30))

    def test_lists_stand_by_themselves(self):
        hall = hall_of(2, [(0, 1, 2, 3), (1, 0, 3, 2, 9), (0, 1, 2, 3)])
        before = lean_rooms(hall)
        rooms, stops = lean_rooms(hall)
        self.assertEqual((rooms, stops), before)
        self.assertEqual([stop is None for stop in stops], [False, True, False])
        stops[0][0].append(9)
        self.assertEqual(stops[1:], before[1][1:])
        stops[2][1].clear()
        self.assertEqual(rooms, before[0])
        rooms[0] = 99
        stops.pop()
        self.assertEqual(lean_rooms(hall), before)
        answer = lean_rooms(hall)
        hall.fill(0, 1)
        hall.belt(0, 1, 2, 3)
        lean_rooms(hall)
        self.assertEqual(answer, before)


if __name__ == "__main__":
    unittest.main()
