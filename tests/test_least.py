import random
import time
import unittest
from itertools import product
from math import gcd
from string import ascii_lowercase

from ratehall.errors import NotBalanced, Stuck, TooLong
from ratehall.hall import Hall
from ratehall.least import least_rooms, low_rooms, raised
from ratehall.rates import rates_of
from ratehall.rooms import fitting, lean_rooms
from ratehall.rounds import round_of

LONG = 10 ** 30 - 1
NOT_BALANCED = [(0, 1, 1, 1), (0, 1, 1, 2)]
TOO_LONG = [(0, 1, 1, 400), (0, 1, 1, 400)]
STUCK = [(0, 1, 1, 1), (1, 0, 1, 1)]
# Five belts each, with rates that come to twenty; tables of some of them have thousands of entries.
LARGE_HALLS = (
    ([10, 9, 1], [(2, 1, 9, 1, 213), (2, 1, 9, 1, 277), (2, 0, 350, 35, 360), (0, 2, 36, 360, 469), (1, 0, 10, 9, 181)]),
    ([9, 11], [(0, 1, 11, 9), (0, 1, 22, 18, 5), (1, 0, 9, 11, 25), (1, 0, 90, 110, 290), (0, 1, 88, 72, 9)]),
    ([9, 11], [(0, 1, 990, 810, 810), (1, 0, 810, 990, 990), (0, 1, 979, 801, 1000), (1, 0, 9, 11, 999), (0, 1, 11, 9, 8)]),
    ([19, 1], [(0, 1, 1, 19), (0, 1, 52, 988, 7), (0, 1, 52, 988, 1000), (1, 0, 19, 1, 19), (0, 0, 1000, 1000, 1000)]),
)


def hall_of(works, belts=()):
    hall = Hall()
    for number in range(works):
        hall.work(ascii_lowercase[number])
    for belt in belts:
        hall.lay(tuple(belt) + (0,) * (5 - len(belt)))
    return hall


def chance_hall(chance, works, belts, most_rate, starts, most_often=2):
    """Belts that fit rates drawn ahead."""
    rates = [chance.randrange(1, most_rate + 1) for work in range(works)]
    rows = []
    for belt in range(belts):
        giver, taker = chance.randrange(works), chance.randrange(works)
        common, often = gcd(rates[giver], rates[taker]), chance.randrange(1, most_often + 1)
        rows.append((giver, taker, rates[taker] // common * often, rates[giver] // common * often, chance.choice(starts)))
    return hall_of(works, rows)


def told(hall):
    return (hall.names(), hall.belts())


def lying_behind(hall, counts):
    return [start + give * counts[giver] - take * counts[taker] for giver, taker, give, take, start in hall.belts()]


def counts_within(hall, rooms):
    """How often each work turned when, of the least ready works within the rooms, none is left; no back belts."""
    rates = rates_of(hall)[0]
    belts = hall.belts()
    counts = [0] * len(rates)
    turned = True
    while turned:
        turned = False
        for work, rate in enumerate(rates):
            lying = lying_behind(hall, counts)
            if counts[work] < rate and all(
                    (row[1] != work or lies >= row[3]) and (row[0] != work or room - lies >= row[2])
                    for row, room, lies in zip(belts, rooms, lying)):
                counts[work] += 1
                turned = True
    return counts


def is_enough(hall, rooms):
    if any(room < row[4] for room, row in zip(rooms, hall.belts())):
        return False
    return counts_within(hall, rooms) == rates_of(hall)[0]


def rooms_of_sum(belts, total):
    """All lists of so many numbers from 0 on with this sum, the lesser lists first."""
    if belts == 0:
        return [[]] if total == 0 else []
    return [[first] + rest for first in range(total + 1) for rest in rooms_of_sum(belts - 1, total - first)]


def plain_least_rooms(hall):
    """Told by trying all rooms in their order, also those below the low rooms' sum."""
    total = 0
    while True:
        for rooms in rooms_of_sum(len(hall.belts()), total):
            if is_enough(hall, rooms):
                return rooms
        total += 1


def order(rooms):
    return (sum(rooms), list(rooms))


class LeastCase(unittest.TestCase):
    def check_refused(self, refusal, hall):
        before = told(hall)
        with self.assertRaises(refusal) as refused:
            least_rooms(hall)
        self.assertIs(type(refused.exception), refusal)
        self.assertEqual(told(hall), before)

    def check_stop(self, hall, rooms, counts, ring):
        """A stop of the backed hall of the rooms, with a back belt in it."""
        self.assertEqual((type(counts), type(ring)), (list, list))
        self.assertEqual(counts, counts_within(hall, rooms))
        rates = rates_of(hall)[0]
        belts = hall.belts()
        belts += [(row[1], row[0], row[3], row[2], room - row[4]) for row, room in zip(hall.belts(), rooms)]
        self.assertGreater(len(ring), 0)
        self.assertEqual(len(set(ring)), len(ring))
        self.assertGreaterEqual(max(ring), len(rooms))
        for place, belt in enumerate(ring):
            self.assertIs(type(belt), int)
            self.assertIn(belt, range(len(belts)))
            giver, taker, give, take, start = belts[belt]
            self.assertEqual(belts[ring[place - 1]][0], taker)
            self.assertLess(counts[taker], rates[taker])
            self.assertLess(start + give * counts[giver] - take * counts[taker], take)

    def check_least(self, hall, expected=None):
        """The table's three promises, by which no rooms with a round come ahead of the told ones."""
        before = told(hall)
        answer = least_rooms(hall)
        self.assertEqual(told(hall), before)
        self.assertIs(type(answer), tuple)
        self.assertEqual(len(answer), 2)
        rooms, table = answer
        self.assertEqual((type(rooms), type(table)), (list, list))
        self.assertEqual([type(room) for room in rooms], [int] * len(hall.belts()))
        self.assertTrue(is_enough(hall, rooms))
        entries = set()
        for entry in table:
            self.assertIs(type(entry), tuple)
            self.assertEqual(len(entry), 3)
            self.assertIs(type(entry[0]), list)
            entries.add(tuple(entry[0]))
        self.assertEqual(len(entries), len(table))
        self.assertNotIn(tuple(rooms), entries)
        low = [max(row[2], row[3], row[4]) for row in hall.belts()]
        self.assertTrue(low == rooms or tuple(low) in entries)
        for entry_rooms, counts, ring in table:
            self.check_stop(hall, entry_rooms, counts, ring)
            for belt in ring:
                if belt >= len(rooms):
                    giver, taker, give, take, start = hall.belt_at(belt - len(rooms))
                    more = list(entry_rooms)
                    more[belt - len(rooms)] = start + give * (counts[giver] + 1) - take * counts[taker]
                    self.assertTrue(tuple(more) in entries or order(more) >= order(rooms))
        if expected is not None:
            self.assertEqual(rooms, expected)
        return answer


class TestLowRooms(unittest.TestCase):
    def test_low_rooms(self):
        self.assertEqual(low_rooms(Hall()), [])
        self.assertEqual(low_rooms(hall_of(3)), [])
        hall = hall_of(2, [(0, 1, 2, 3), (1, 0, 3, 2), (0, 1, 1, 1, 9), (0, 0, 4, 4, 4), (1, 1, LONG, 1, 5), (1, 1, 1, LONG)])
        before = told(hall)
        self.assertEqual(low_rooms(hall), [3, 3, 9, 4, LONG, LONG])
        self.assertIs(type(low_rooms(hall)), list)
        self.assertEqual(told(hall), before)

    def test_of_every_hall(self):
        self.assertEqual(low_rooms(hall_of(2, NOT_BALANCED)), [1, 2])
        self.assertEqual(low_rooms(hall_of(2, TOO_LONG)), [400, 400])
        self.assertEqual(low_rooms(hall_of(2, STUCK)), [1, 1])
        self.assertEqual(low_rooms(hall_of(2, [(0, 1, 1, 1, belt) for belt in range(60)])), [1] + list(range(1, 60)))

    def test_no_rooms_with_a_round_have_less(self):
        chance = random.Random(20)
        for turn in range(150):
            hall = chance_hall(chance, 3, chance.randrange(1, 4), 3, (0, 1, 2, 3, 5))
            if round_of(hall)[0] is None:
                continue
            for belt, room in enumerate(low_rooms(hall)):
                rooms = [1000] * len(hall.belts())
                rooms[belt] = room - 1
                with self.subTest(belts=hall.belts(), belt=belt):
                    self.assertFalse(is_enough(hall, rooms))

    def test_lists_stand_by_themselves(self):
        hall = hall_of(2, [(0, 1, 2, 3)])
        rooms = low_rooms(hall)
        hall.fill(0, 9)
        self.assertEqual(rooms, [3])
        low_rooms(hall).clear()
        self.assertEqual(low_rooms(hall), [9])


class TestRaised(unittest.TestCase):
    def check_raised(self, hall, rooms, counts, ring, expected):
        before = (told(hall), list(rooms), list(counts), list(ring))
        answer = raised(hall, rooms, counts, ring)
        self.assertIs(type(answer), list)
        self.assertEqual([type(more) for more in answer], [list] * len(answer))
        self.assertEqual(answer, expected)
        self.assertEqual((told(hall), rooms, counts, ring), before)

    def test_the_ring_of_a_stop(self):
        hall = hall_of(2, [(0, 1, 2, 3)])
        self.check_raised(hall, [3], [1, 0], [0, 1], [[4]])
        self.check_raised(hall, [3], [1, 0], [1, 0], [[4]])

    def test_by_the_own_numbers_of_the_belt(self):
        hall = hall_of(3, [(0, 1, 2, 3, 4), (1, 2, 5, 7, 11), (2, 0, 13, 17, 19)])
        rooms = [100, 200, 300]
        self.check_raised(hall, rooms, [6, 1, 2], [3], [[4 + 2 * 7 - 3 * 1, 200, 300]])
        self.check_raised(hall, rooms, [6, 1, 2], [4], [[100, 11 + 5 * 2 - 7 * 2, 300]])
        self.check_raised(hall, rooms, [6, 1, 2], [5], [[100, 200, 19 + 13 * 3 - 17 * 6]])

    def test_one_for_each_in_the_order_of_the_ring(self):
        hall = hall_of(3, [(0, 1, 2, 3, 4), (1, 2, 5, 7, 11), (2, 0, 13, 17, 19)])
        first, second, third = [6, 9, 9], [9, 16, 9], [9, 9, 32]
        self.check_raised(hall, [9, 9, 9], [0, 0, 0], [3, 4, 5], [first, second, third])
        self.check_raised(hall, [9, 9, 9], [0, 0, 0], [5, 3, 4], [third, first, second])
        self.check_raised(hall, [9, 9, 9], [0, 0, 0], [4, 0, 3, 2, 1], [second, first])
        self.check_raised(hall, [9, 9, 9], [0, 0, 0], [4, 4, 3, 4], [second, second, first, second])

    def test_belts_of_the_hall_itself_raise_nothing(self):
        hall = hall_of(2, [(0, 1, 2, 3), (1, 0, 3, 2, 4)])
        self.check_raised(hall, [3, 4], [0, 0], [], [])
        self.check_raised(hall, [3, 4], [0, 0], [0, 1], [])
        self.check_raised(Hall(), [], [], [], [])

    def test_from_a_work_to_itself(self):
        self.check_raised(hall_of(1, [(0, 0, 3, 3, 3)]), [5], [0], [1], [[6]])
        self.check_raised(hall_of(1, [(0, 0, 3, 3, 3)]), [5], [8], [0, 1], [[6]])

    def test_any_counts(self):
        hall = hall_of(2, [(0, 1, 2, 3, 1)])
        self.check_raised(hall, [50], [0, 9], [1], [[1 + 2 - 27]])
        self.check_raised(hall, [0], [LONG, LONG], [1], [[3 - LONG]])
        self.check_raised(hall_of(2, [(0, 1, LONG, 1, LONG)]), [LONG], [LONG, 0], [1], [[LONG * (LONG + 2)]])
        self.check_raised(hall_of(2, NOT_BALANCED), [1, 2], [3, 1], [2, 3], [[3, 2], [1, 2]])

    def test_sixty_belts(self):
        hall = hall_of(2, [(0, 1, 1, 2, belt) for belt in range(60)])
        answer = raised(hall, [100] * 60, [5, 1], list(range(120)))
        self.assertEqual(answer, [[100] * belt + [belt + 4] + [100] * (59 - belt) for belt in range(60)])

    def test_enough_rooms_have_at_least_one_of_the_raised_ones(self):
        chance = random.Random(21)
        stops = 0
        while stops < 60:
            hall = chance_hall(chance, 3, 2, 3, (0, 1, 2, 3))
            rooms = low_rooms(hall)
            counts_and_ring = fitting(hall, rooms)[1]
            if counts_and_ring is None or round_of(hall)[0] is None:
                continue
            stops += 1
            raises = raised(hall, rooms, *counts_and_ring)
            for more in product(range(8), repeat=2):
                others = [room + step for room, step in zip(rooms, more)]
                if is_enough(hall, others):
                    with self.subTest(belts=hall.belts(), rooms=rooms, others=others):
                        self.assertTrue(any(all(one <= other for one, other in zip(new, others)) for new in raises))

    def test_lists_stand_by_themselves(self):
        hall = hall_of(2, [(0, 1, 2, 3), (1, 0, 3, 2, 4)])
        rooms, counts, ring = [3, 4], [1, 0], [2, 3]
        answer = raised(hall, rooms, counts, ring)
        expected = [list(more) for more in answer]
        rooms[0] = 99
        counts[0] = 7
        ring.clear()
        hall.fill(0, 5)
        self.assertEqual(answer, expected)
        answer[0].clear()
        self.assertEqual(answer[1], expected[1])
        self.assertEqual(rooms, [99, 4])


class TestLeastRooms(LeastCase):
    def test_no_belts(self):
        self.assertEqual(least_rooms(Hall()), ([], []))
        self.assertEqual(least_rooms(hall_of(3)), ([], []))

    def test_low_rooms_that_are_enough(self):
        self.assertEqual(self.check_least(hall_of(2, [(0, 1, 1, 1)])), ([1], []))
        self.assertEqual(self.check_least(hall_of(2, [(0, 1, 5, 7, 100)])), ([100], []))

    def test_one_belt(self):
        rooms, table = self.check_least(hall_of(2, [(0, 1, 2, 3)]), [4])
        self.assertEqual([entry[:2] for entry in table], [([3], [1, 0])])
        self.check_least(hall_of(2, [(0, 1, 4, 6)]), [8])
        self.check_least(hall_of(2, [(0, 1, 5, 5, 1)]), [6])
        self.check_least(hall_of(2, [(0, 1, 5, 7)]), [11])
        self.check_least(hall_of(1, [(0, 0, 3, 3, 3)]), [6])

    def test_less_than_lean_rooms(self):
        chance = random.Random(22)
        less = 0
        for turn in range(300):
            hall = chance_hall(chance, 3, 4, 5, (0, 1, 2, 3, 5, 8))
            if sum(rates_of(hall)[0]) > 20 or round_of(hall)[0] is None:
                continue
            lean = lean_rooms(hall)[0]
            rooms = self.check_least(hall)[0]
            self.assertLessEqual(order(rooms), order(lean))
            less += sum(rooms) < sum(lean)
        self.assertGreater(less, 0)

    def test_the_first_of_all_rooms(self):
        chance = random.Random(23)
        rounds = 0
        entries = 0
        while rounds < 150:
            hall = chance_hall(chance, chance.randrange(1, 5), chance.randrange(1, 5), 3, (0, 0, 1, 2, 3), 1)
            if sum(low_rooms(hall)) > 12:
                continue
            if round_of(hall)[0] is None:
                self.check_refused(Stuck, hall)
                continue
            rounds += 1
            with self.subTest(belts=hall.belts()):
                rooms, table = self.check_least(hall)
                self.assertEqual(rooms, plain_least_rooms(hall))
                entries += len(table)
        self.assertGreater(entries, 150)

    def test_of_equal_sums_the_list_that_is_less(self):
        """Several rooms of the least sum are enough: told are those with less on the first belt that differs."""
        chance = random.Random(24)
        several = 0
        for turn in range(400):
            hall = chance_hall(chance, 3, 3, 3, (0, 1, 2, 3), 1)
            if round_of(hall)[0] is None:
                continue
            rooms = self.check_least(hall)[0]
            if sum(rooms) > 18:
                continue
            all_least = [others for others in rooms_of_sum(3, sum(rooms)) if is_enough(hall, others)]
            with self.subTest(belts=hall.belts()):
                self.assertEqual(rooms, min(all_least))
            several += len(all_least) > 1
        self.assertGreater(several, 3)

    def test_halls_of_any_kind(self):
        chance = random.Random(25)
        rounds = 0
        while rounds < 200:
            often, starts = chance.choice(((1, (0, 1, 2, 5)), (3, (0, 3, 8, 20)), (90, (0, 17, 250, 999, 1000))))
            hall = chance_hall(chance, chance.randrange(2, 7), 5, 10, starts, often)
            rates = rates_of(hall)[0]
            if sum(rates) > 20 or round_of(hall)[0] is None or max(max(row) for row in hall.belts()) > 1000:
                continue
            rounds += 1
            with self.subTest(belts=hall.belts()):
                self.check_least(hall)

    def test_five_belts_and_rounds_of_twenty_turns_in_little_time(self):
        began = time.monotonic()
        entries = []
        for rates, belts in LARGE_HALLS:
            hall = hall_of(len(rates), belts)
            self.assertEqual((rates_of(hall)[0], sum(rates), len(belts)), (rates, 20, 5))
            with self.subTest(belts=belts):
                entries.append(len(self.check_least(hall)[1]))
        self.assertGreater(max(entries), 1000)
        self.assertLess(time.monotonic() - began, 120)

    def test_gives_takes_and_starts_of_a_thousand(self):
        self.check_least(hall_of(2, [(0, 1, 1000, 1000, 999)]), [1999])
        self.check_least(hall_of(2, [(0, 1, 1000, 900)]), [1800])
        self.check_least(hall_of(2, [(0, 1, 1000, 900, 1000), (1, 0, 900, 1000, 1000), (0, 1, 500, 450, 500)]))
        self.check_least(hall_of(3, [(0, 1, 1000, 500, 1000), (1, 2, 500, 1000, 3), (0, 2, 1000, 1000)]))

    def test_refusals_in_their_order(self):
        self.check_refused(NotBalanced, hall_of(2, NOT_BALANCED))
        self.check_refused(NotBalanced, hall_of(3, NOT_BALANCED + [(0, 2, 1, 500)]))
        self.check_refused(NotBalanced, hall_of(4, NOT_BALANCED + [(2, 3, 1, 1), (3, 2, 1, 1)]))
        self.check_refused(TooLong, hall_of(2, TOO_LONG))
        self.check_refused(TooLong, hall_of(2, [(0, 1, 1, 400), (1, 0, 400, 1)]))
        self.check_refused(Stuck, hall_of(2, STUCK))
        self.check_refused(Stuck, hall_of(2, [(0, 1, 1, 399), (1, 0, 399, 1, 398)]))
        self.check_refused(Stuck, hall_of(1, [(0, 0, 1000, 1000, 999)]))
        self.check_refused(Stuck, hall_of(2, STUCK * 30))

    def test_lists_stand_by_themselves(self):
        hall = hall_of(2, [(0, 1, 5, 7), (0, 1, 5, 7, 3)])
        before = least_rooms(hall)
        rooms, table = least_rooms(hall)
        self.assertEqual((rooms, table), before)
        self.assertGreater(len(table), 2)
        for place, entry in enumerate(table):
            entry[0].append(1)
            entry[1][0] = 99
            entry[2].clear()
            self.assertEqual(table[place + 1:], before[1][place + 1:])
        self.assertEqual(rooms, before[0])
        rooms.clear()
        table.pop()
        self.assertEqual(least_rooms(hall), before)
        answer = least_rooms(hall)
        hall.fill(0, 2)
        hall.belt(0, 1, 5, 7)
        least_rooms(hall)
        self.assertEqual(answer, before)


if __name__ == "__main__":
    unittest.main()
