import random
import time
import unittest
from math import gcd
from string import ascii_lowercase

from ratehall.errors import NotBalanced, TooLong
from ratehall.floor import Floor
from ratehall.hall import MOST_BELTS, Hall
from ratehall.rates import change_of, rates_of
from ratehall.rounds import MOST_TURNS, round_of

LONG = 10 ** 30 - 1
# Of thirty figures, without a common divisor but 1.
THIRTY_A = 2 ** 99
THIRTY_B = 3 ** 62


def hall_of(works, belts=()):
    """A hall of so many works; belts are laid, so that there may be as many as a backed hall has."""
    hall = Hall()
    for number in range(works):
        hall.work(ascii_lowercase[number // 26] + ascii_lowercase[number % 26])
    for belt in belts:
        hall.lay(tuple(belt) + (0,) * (5 - len(belt)))
    return hall


def chance_hall(chance, most_works, most_belts, most_rate, starts):
    """Belts that fit rates drawn ahead."""
    works = chance.randrange(1, most_works + 1)
    rates = [chance.randrange(1, most_rate + 1) for work in range(works)]
    rows = []
    for belt in range(chance.randrange(most_belts + 1)):
        giver, taker = chance.randrange(works), chance.randrange(works)
        common, often = gcd(rates[giver], rates[taker]), chance.randrange(1, 3)
        rows.append((giver, taker, rates[taker] // common * often, rates[giver] // common * often, chance.choice(starts)))
    return hall_of(works, rows)


def lying_behind(hall, counts):
    return [start + give * counts[giver] - take * counts[taker] for giver, taker, give, take, start in hall.belts()]


def is_ready(hall, counts, work):
    return all(lying >= take for (giver, taker, give, take, start), lying in zip(hall.belts(), lying_behind(hall, counts))
               if taker == work)


def plain_row(hall, rates):
    """The row of the least works each time, and its counts, told anew from the counts ahead of each turn."""
    counts = [0] * len(rates)
    row = []
    while True:
        free = [work for work in range(len(rates)) if counts[work] < rates[work] and is_ready(hall, counts, work)]
        if not free:
            return row, counts
        row.append(min(free))
        counts[min(free)] += 1


def can_come_round(hall, rates):
    """Told by going through all counts to which turns can lead."""
    reached = {(0,) * len(rates)}
    new = list(reached)
    while new:
        counts = new.pop()
        for work, rate in enumerate(rates):
            if counts[work] < rate and is_ready(hall, counts, work):
                more = counts[:work] + (counts[work] + 1,) + counts[work + 1:]
                if more not in reached:
                    reached.add(more)
                    new.append(more)
    return tuple(rates) in reached


class RoundCase(unittest.TestCase):
    def check_told(self, hall):
        before = (hall.names(), hall.belts())
        told = round_of(hall)
        self.assertIs(type(told), tuple)
        self.assertEqual(len(told), 2)
        self.assertEqual([part is None for part in told].count(True), 1)
        self.assertEqual((hall.names(), hall.belts()), before)
        return told

    def check_round(self, hall, expected=None):
        row, stop = self.check_told(hall)
        self.assertIsNone(stop)
        self.assertIs(type(row), list)
        rates = rates_of(hall)[0]
        self.assertEqual([row.count(work) for work in range(len(rates))], rates)
        self.assertEqual(len(row), sum(rates))
        self.assertEqual(row, plain_row(hall, rates)[0])
        floor = Floor(hall)
        floor.go(row)
        self.assertEqual(floor.lying(), Floor(hall).lying())
        if expected is not None:
            self.assertEqual(row, expected)
        return row

    def check_stop(self, hall, expected=None):
        row, stop = self.check_told(hall)
        self.assertIsNone(row)
        self.assertIs(type(stop), tuple)
        self.assertEqual(len(stop), 2)
        counts, ring = stop
        self.assertEqual((type(counts), type(ring)), (list, list))
        rates = rates_of(hall)[0]
        self.assertEqual(counts, plain_row(hall, rates)[1])
        self.assertGreater(len(ring), 0)
        self.assertEqual(len(set(ring)), len(ring))
        lying = lying_behind(hall, counts)
        for place, belt in enumerate(ring):
            self.assertIs(type(belt), int)
            giver, taker, give, take, start = hall.belt_at(belt)
            self.assertEqual(hall.belt_at(ring[place - 1])[0], taker)
            self.assertLess(counts[taker], rates[taker])
            self.assertLess(lying[belt], take)
        if expected is not None:
            self.assertEqual(counts, expected)
        return counts, ring

    def check_refused(self, refusal, hall):
        before = (hall.names(), hall.belts())
        with self.assertRaises(refusal) as refused:
            round_of(hall)
        self.assertIs(type(refused.exception), refusal)
        self.assertEqual((hall.names(), hall.belts()), before)


class TestRounds(RoundCase):
    def test_no_works(self):
        self.assertEqual(round_of(Hall()), ([], None))

    def test_no_belts(self):
        self.assertEqual(round_of(hall_of(1)), ([0], None))
        self.assertEqual(round_of(hall_of(3)), ([0, 1, 2], None))

    def test_the_least_number_each_time(self):
        self.check_round(hall_of(2, [(0, 1, 2, 3)]), [0, 0, 0, 1, 1])
        self.check_round(hall_of(2, [(1, 0, 3, 2)]), [1, 0, 1, 0, 0])
        self.check_round(hall_of(2, [(1, 0, 3, 2, 2)]), [0, 1, 0, 1, 0])
        self.check_round(hall_of(2, [(0, 1, 2, 3, 3), (1, 0, 3, 2, 2)]), [0, 1, 0, 1, 0])
        self.check_round(hall_of(3, [(2, 1, 1, 1), (1, 0, 1, 1)]), [2, 1, 0])
        self.check_round(hall_of(3, [(0, 2, 1, 2), (1, 2, 1, 1)]), [0, 0, 1, 2])

    def test_a_lesser_work_that_becomes_ready_turns_at_once(self):
        hall = hall_of(4, [(3, 1, 1, 2), (1, 2, 4, 1), (2, 0, 1, 2)])
        self.check_round(hall, [3, 3, 1, 2, 2, 0, 2, 2, 0])

    def test_starts_just_enough_and_one_too_few(self):
        for start in (3, 4, 5, 100, LONG):
            self.check_round(hall_of(2, [(0, 1, 2, 3), (1, 0, 3, 2, start + 1)]))
        self.check_round(hall_of(2, [(0, 1, 2, 3), (1, 0, 3, 2, 4)]), [0, 0, 1, 0, 1])
        self.check_stop(hall_of(2, [(0, 1, 2, 3), (1, 0, 3, 2, 3)]), [1, 0])
        self.check_round(hall_of(1, [(0, 0, 4, 4, 4)]), [0])
        self.check_stop(hall_of(1, [(0, 0, 4, 4, 3)]), [0])
        self.check_round(hall_of(3, [(0, 1, 1, 1), (1, 2, 1, 1), (2, 0, 1, 1, 1)]), [0, 1, 2])
        self.check_stop(hall_of(3, [(0, 1, 1, 1), (1, 2, 1, 1), (2, 0, 1, 1, 0)]), [0, 0, 0])

    def test_filling_anew(self):
        hall = hall_of(2, [(0, 1, 2, 3), (1, 0, 3, 2, 3)])
        self.check_stop(hall, [1, 0])
        hall.fill(1, 4)
        self.check_round(hall, [0, 0, 1, 0, 1])
        hall.fill(0, 3)
        self.check_round(hall, [0, 0, 1, 0, 1])
        hall.fill(1, 0)
        self.check_stop(hall, [1, 1])
        hall.fill(0, 4)
        self.check_round(hall, [1, 0, 1, 0, 0])
        hall.fill(0, 2)
        self.check_stop(hall, [0, 0])
        hall.fill(1, 3)
        hall.fill(0, 0)
        self.check_stop(hall, [1, 0])

    def test_from_a_work_to_itself(self):
        self.check_round(hall_of(2, [(0, 0, 5, 5, 5), (0, 1, 3, 1)]), [0, 1, 1, 1])
        self.check_round(hall_of(2, [(0, 1, 1, 3), (1, 1, 2, 2, 3)]), [0, 0, 0, 1])
        counts, ring = self.check_stop(hall_of(2, [(0, 1, 1, 3), (1, 1, 2, 2, 1)]), [3, 0])
        self.assertEqual(ring, [1])
        counts, ring = self.check_stop(hall_of(2, [(0, 1, 1, 3), (0, 0, 2, 2, 0)]), [0, 0])
        self.assertEqual(ring, [1])

    def test_several_pieces(self):
        self.check_round(hall_of(4, [(2, 0, 2, 1), (3, 1, 1, 3)]), [2, 0, 0, 3, 3, 3, 1])

    def test_pieces_that_stop_and_pieces_that_come_round(self):
        counts, ring = self.check_stop(hall_of(4, [(0, 1, 2, 3), (2, 3, 1, 1), (3, 2, 1, 1)]), [3, 2, 0, 0])
        self.assertEqual(sorted(ring), [1, 2])
        counts, ring = self.check_stop(hall_of(4, [(2, 3, 2, 3), (0, 1, 1, 1), (1, 0, 1, 1)]), [0, 0, 3, 2])
        self.assertEqual(sorted(ring), [1, 2])

    def test_starts_of_thirty_figures(self):
        self.check_round(hall_of(2, [(0, 1, LONG, LONG, LONG), (1, 0, 3, 3, LONG)]), [0, 1])
        self.check_stop(hall_of(2, [(0, 1, LONG, LONG, LONG - 1), (1, 0, 3, 3, 2)]), [0, 0])

    def test_halls_of_any_kind(self):
        chance = random.Random(13)
        found = {True: 0, False: 0}
        for turn in range(1500):
            hall = chance_hall(chance, 5, 7, 4, (0, 0, 1, 2, 3, 5, 8))
            rates = rates_of(hall)[0]
            with self.subTest(belts=hall.belts()):
                if len(plain_row(hall, rates)[0]) == sum(rates):
                    self.check_round(hall)
                    found[True] += 1
                else:
                    self.check_stop(hall)
                    found[False] += 1
        self.assertGreater(min(found.values()), 300)

    def test_large_halls_of_any_kind(self):
        chance = random.Random(14)
        found = {True: 0, False: 0}
        while min(found.values()) < 5:
            hall = chance_hall(chance, 30, 60, 12, (0, 30, 60, 90, 120))
            rates = rates_of(hall)[0]
            if not 150 <= sum(rates) <= MOST_TURNS:
                continue
            comes_round = len(plain_row(hall, rates)[0]) == sum(rates)
            found[comes_round] += 1
            with self.subTest(belts=hall.belts()):
                if comes_round:
                    self.check_round(hall)
                else:
                    self.check_stop(hall)

    def test_told_just_where_there_is_one(self):
        chance = random.Random(15)
        found = {True: 0, False: 0}
        for turn in range(400):
            hall = chance_hall(chance, 4, 6, 3, (0, 0, 1, 2, 3, 4))
            there_is_one = can_come_round(hall, rates_of(hall)[0])
            with self.subTest(belts=hall.belts()):
                self.assertEqual(round_of(hall)[0] is not None, there_is_one)
            found[there_is_one] += 1
        self.assertGreater(min(found.values()), 80)

    def test_whoever_turns_any_ready_works_comes_to_a_round(self):
        chance = random.Random(16)
        rounds = 0
        for turn in range(300):
            hall = chance_hall(chance, 5, 7, 4, (0, 1, 2, 3, 5, 8))
            rates = rates_of(hall)[0]
            row, stop = round_of(hall)
            for often in range(4):
                floor = Floor(hall)
                left = list(rates)
                while True:
                    free = [work for work in range(len(rates)) if left[work] and floor.ready(work)]
                    if not free:
                        break
                    work = chance.choice(free)
                    floor.turn(work)
                    left[work] -= 1
                with self.subTest(belts=hall.belts()):
                    if stop is None:
                        self.assertEqual(left, [0] * len(rates))
                        self.assertEqual(floor.lying(), Floor(hall).lying())
                    else:
                        self.assertEqual([rate - more for rate, more in zip(rates, left)], stop[0])
            rounds += stop is None
        self.assertTrue(60 < rounds < 240)


class TestStops(RoundCase):
    def test_two_that_wait_for_one_another(self):
        counts, ring = self.check_stop(hall_of(2, [(0, 1, 1, 1), (1, 0, 1, 1)]), [0, 0])
        self.assertEqual(sorted(ring), [0, 1])

    def test_behind_some_turns(self):
        hall = hall_of(3, [(0, 1, 1, 2), (1, 2, 2, 1), (2, 0, 1, 1, 1)])
        counts, ring = self.check_stop(hall, [1, 0, 0])
        self.assertEqual(sorted(ring), [0, 1, 2])

    def test_works_that_wait_for_the_ring_are_not_in_it(self):
        hall = hall_of(4, [(1, 0, 1, 1), (2, 1, 1, 1), (3, 2, 1, 1), (2, 3, 1, 1)])
        counts, ring = self.check_stop(hall, [0, 0, 0, 0])
        self.assertEqual(sorted(ring), [2, 3])

    def test_belts_with_enough_pieces_are_not_in_it(self):
        hall = hall_of(2, [(0, 1, 2, 2, 2), (0, 1, 1, 1, 0), (1, 0, 3, 3, 9), (1, 0, 1, 1, 0)])
        counts, ring = self.check_stop(hall, [0, 0])
        self.assertEqual(sorted(ring), [1, 3])

    def test_works_whose_turns_are_done_are_not_in_it(self):
        # Behind its turns the first work is short on belt 0, but it has none left.
        hall = hall_of(3, [(1, 0, 1, 1, 1), (0, 1, 1, 1), (2, 1, 1, 1), (1, 2, 1, 1)])
        counts, ring = self.check_stop(hall, [1, 0, 0])
        self.assertEqual(sorted(ring), [2, 3])

    def test_a_ring_of_thirty_works(self):
        belts = [(work, (work + 1) % 30, 1, 1, 0) for work in range(30)]
        counts, ring = self.check_stop(hall_of(30, belts), [0] * 30)
        self.assertEqual(sorted(ring), list(range(30)))
        belts[17] = (17, 18, 1, 1, 1)
        self.check_round(hall_of(30, belts), [(18 + turn) % 30 for turn in range(30)])

    def test_the_change_of_the_counts_shows_that_each_waits(self):
        hall = hall_of(2, [(0, 1, 5, 7, 3), (1, 0, 7, 5, 7)])
        counts, ring = self.check_stop(hall, [2, 1])
        behind = [row[4] + more for row, more in zip(hall.belts(), change_of(hall, counts))]
        self.assertTrue(all(behind[belt] < hall.belt_at(belt)[3] for belt in ring))


class TestRefusals(RoundCase):
    def test_the_bound(self):
        self.assertEqual(MOST_TURNS, 400)

    def test_not_balanced(self):
        self.check_refused(NotBalanced, hall_of(1, [(0, 0, 1, 2, 9)]))
        self.check_refused(NotBalanced, hall_of(2, [(0, 1, 1, 1), (0, 1, 1, 2)]))
        self.check_refused(NotBalanced, hall_of(3, [(1, 2, 2, 1, 5), (2, 1, 1, 1, 5)]))

    def test_four_hundred_turns_are_told(self):
        self.check_round(hall_of(2, [(0, 1, 1, 399)]), [0] * 399 + [1])
        self.check_round(hall_of(2, [(0, 1, 199, 201, 201)]))
        self.check_stop(hall_of(2, [(0, 1, 1, 399), (1, 0, 399, 1, 398)]), [398, 0])
        self.check_round(hall_of(4, [(0, 1, 1, 199), (2, 3, 199, 1)]))

    def test_four_hundred_and_one_are_refused(self):
        self.check_refused(TooLong, hall_of(2, [(0, 1, 1, 400)]))
        self.check_refused(TooLong, hall_of(2, [(0, 1, 200, 201, 201)]))
        self.check_refused(TooLong, hall_of(3, [(0, 1, 1, 399)]))
        self.check_refused(TooLong, hall_of(2, [(0, 1, 1, 400), (1, 0, 400, 1)]))
        self.check_refused(TooLong, hall_of(4, [(0, 1, 1, 199), (2, 3, 200, 1)]))

    def test_not_balanced_ahead_of_too_long(self):
        self.check_refused(NotBalanced, hall_of(3, [(0, 1, 1, 500), (2, 2, 1, 2)]))
        self.check_refused(NotBalanced, hall_of(2, [(0, 1, 1, 500), (0, 1, 1, 501)]))

    def test_rates_of_thirty_figures_are_refused_at_once(self):
        began = time.monotonic()
        self.check_refused(TooLong, hall_of(2, [(0, 1, THIRTY_A, THIRTY_B, LONG)]))
        self.check_refused(TooLong, hall_of(2, [(0, 1, 1, LONG), (1, 0, LONG, 1, LONG)]))
        self.check_refused(TooLong, hall_of(30, [(work, work + 1, THIRTY_A, THIRTY_B) for work in range(29)]))
        self.assertLess(time.monotonic() - began, 5)

    def test_large_numbers_with_short_rounds(self):
        self.check_round(hall_of(2, [(0, 1, 2 * THIRTY_A, 3 * THIRTY_A)]), [0, 0, 0, 1, 1])


class TestLists(RoundCase):
    def test_lists_that_were_told_are_the_askers_own(self):
        hall = hall_of(2, [(0, 1, 2, 3)])
        told = round_of(hall)[0]
        told.append(7)
        told[0] = 9
        self.check_round(hall, [0, 0, 0, 1, 1])
        hall = hall_of(2, [(0, 1, 2, 3), (1, 0, 3, 2, 3)])
        counts, ring = round_of(hall)[1]
        counts[0] = 9
        ring.clear()
        counts.append(3)
        self.check_stop(hall, [1, 0])

    def test_lists_that_were_told_stay(self):
        hall = hall_of(2, [(0, 1, 2, 3), (1, 0, 3, 2, 3)])
        stopped = round_of(hall)
        hall.fill(1, 4)
        told = round_of(hall)
        hall.work("more")
        hall.belt(2, 0, 1, 1)
        round_of(hall)
        self.assertEqual(stopped[0], None)
        self.assertEqual(stopped[1][0], [1, 0])
        self.assertEqual(sorted(stopped[1][1]), [0, 1])
        self.assertEqual(told, ([0, 0, 1, 0, 1], None))
        self.check_round(hall, [2, 0, 2, 0, 1, 2, 0, 1])


class TestManyBelts(RoundCase):
    def test_as_many_belts_as_a_backed_hall_has(self):
        belts = [(0, 1, 1, 2, belt) for belt in range(MOST_BELTS)]
        belts += [(1, 0, 2, 1, 2) for belt in range(MOST_BELTS)]
        self.check_round(hall_of(2, belts), [0, 0, 1])
        belts[119] = (1, 0, 2, 1, 1)
        counts, ring = self.check_stop(hall_of(2, belts), [1, 0])
        self.assertIn(119, ring)
        belts[119] = (1, 0, 1, 2, 1)
        self.check_refused(NotBalanced, hall_of(2, belts))

    def test_thirty_works_and_four_hundred_turns_in_little_time(self):
        chance = random.Random(17)
        rates = [1] + [2, 4, 8, 16] * 6 + [32, 32, 3, 4, 3]
        self.assertEqual((len(rates), sum(rates)), (30, 255))
        belts = []
        for belt in range(120):
            giver, taker = sorted(chance.sample(range(30), 2))
            belts.append((giver, taker, rates[taker], rates[giver]))
        began = time.monotonic()
        for turn in range(20):
            round_of(hall_of(30, belts))
        self.assertLess(time.monotonic() - began, 10)
        self.check_round(hall_of(30, belts))


if __name__ == "__main__":
    unittest.main()
