import random
import unittest
from fractions import Fraction
from itertools import product
from math import gcd
from string import ascii_lowercase

from ratehall.hall import MOST_BELTS, Hall
from ratehall.pieces import pieces_of
from ratehall.rates import change_of, rates_of

LONG = 10 ** 30 - 1
# Of thirty figures, without a common divisor but 1.
THIRTY_A = 2 ** 99
THIRTY_B = 3 ** 62


def hall_of(works, belts=()):
    """A hall of so many works; belts are laid, so that there may be as many as a backed hall has."""
    hall = Hall()
    for number in range(works):
        hall.work(ascii_lowercase[number // 26] + ascii_lowercase[number % 26])
    for belt in belts:
        hall.lay(tuple(belt) + (0,) * (5 - len(belt)))
    return hall


def is_balanced(hall):
    """Told by fractions that spread along the belts until nothing new is found."""
    shares = {}
    belts = hall.belts()
    for first in range(len(hall.names())):
        shares.setdefault(first, Fraction(1))
        found = True
        while found:
            found = False
            for giver, taker, give, take, start in belts:
                if giver in shares and taker not in shares:
                    shares[taker] = shares[giver] * give / take
                    found = True
                if taker in shares and giver not in shares:
                    shares[giver] = shares[taker] * take / give
                    found = True
    return all(shares[giver] * give == shares[taker] * take for giver, taker, give, take, start in belts)


def chance_hall(chance, most_works, most_belts, numbers):
    works = chance.randrange(1, most_works + 1)
    belts = []
    for belt in range(chance.randrange(most_belts + 1)):
        belts.append((chance.randrange(works), chance.randrange(works), chance.choice(numbers), chance.choice(numbers),
                      chance.randrange(4)))
    return hall_of(works, belts)


def chance_balanced_hall(chance, works, belts, most_rate):
    """Belts that fit rates drawn ahead."""
    rates = [chance.randrange(1, most_rate + 1) for work in range(works)]
    rows = []
    for belt in range(belts):
        giver, taker = chance.randrange(works), chance.randrange(works)
        often = chance.randrange(1, 4)
        common = gcd(rates[giver], rates[taker])
        rows.append((giver, taker, rates[taker] // common * often, rates[giver] // common * often))
    return hall_of(works, rows)


class RatesCase(unittest.TestCase):
    def check_rates(self, hall, expected=None):
        before = (hall.names(), hall.belts())
        told = rates_of(hall)
        self.assertIs(type(told), tuple)
        self.assertEqual(len(told), 2)
        rates, ring = told
        self.assertIsNone(ring)
        self.assertIs(type(rates), list)
        self.assertEqual(len(rates), len(hall.names()))
        for rate in rates:
            self.assertIs(type(rate), int)
            self.assertGreaterEqual(rate, 1)
        for giver, taker, give, take, start in hall.belts():
            self.assertEqual(rates[giver] * give, rates[taker] * take)
        self.assertEqual(change_of(hall, rates), [0] * len(hall.belts()))
        for piece in pieces_of(hall):
            self.assertEqual(gcd(*[rates[work] for work in piece]), 1)
        if expected is not None:
            self.assertEqual(rates, expected)
        self.assertEqual((hall.names(), hall.belts()), before)

    def check_ring(self, hall):
        before = (hall.names(), hall.belts())
        told = rates_of(hall)
        self.assertIs(type(told), tuple)
        self.assertEqual(len(told), 2)
        rates, ring = told
        self.assertIsNone(rates)
        self.assertIs(type(ring), list)
        self.assertGreater(len(ring), 0)
        for step in ring:
            self.assertIs(type(step), tuple)
            self.assertEqual([type(part) for part in step], [int, bool])
        self.assertEqual(len(set(belt for belt, along in ring)), len(ring))
        gone = Fraction(1)
        ends = []
        for belt, along in ring:
            giver, taker, give, take, start = hall.belt_at(belt)
            gone *= Fraction(give, take) if along else Fraction(take, give)
            ends.append((giver, taker) if along else (taker, giver))
        for place, (begin, end) in enumerate(ends):
            self.assertEqual(begin, ends[place - 1][1])
        self.assertNotEqual(gone, 1)
        self.assertEqual((hall.names(), hall.belts()), before)
        return ring


class TestChange(unittest.TestCase):
    def check(self, hall, counts, expected):
        before = list(counts)
        told = change_of(hall, counts)
        self.assertIs(type(told), list)
        for change in told:
            self.assertIs(type(change), int)
        self.assertEqual(told, expected)
        self.assertEqual(counts, before)

    def test_no_works_and_no_belts(self):
        self.check(hall_of(0), [], [])
        self.check(hall_of(2), [3, 4], [])

    def test_ordinary_counts(self):
        hall = hall_of(3, [(0, 1, 2, 3, 7), (1, 2, 5, 4), (2, 0, 1, 6, 9)])
        self.check(hall, [0, 0, 0], [0, 0, 0])
        self.check(hall, [1, 0, 0], [2, 0, -6])
        self.check(hall, [0, 1, 0], [-3, 5, 0])
        self.check(hall, [0, 0, 1], [0, -4, 1])
        self.check(hall, [3, 2, 10], [0, -30, -8])

    def test_starts_do_not_count(self):
        self.check(hall_of(2, [(0, 1, 2, 3, 100)]), [1, 5], [-13])
        self.check(hall_of(2, [(0, 1, 2, 3, 0)]), [1, 5], [-13])

    def test_from_a_work_to_itself(self):
        hall = hall_of(2, [(0, 0, 5, 3), (1, 1, 3, 5), (1, 1, 4, 4)])
        self.check(hall, [0, 0], [0, 0, 0])
        self.check(hall, [7, 2], [14, -4, 0])

    def test_several_between_the_same_works(self):
        self.check(hall_of(2, [(0, 1, 1, 2), (1, 0, 1, 2), (0, 1, 1, 2)]), [5, 1], [3, -9, 3])

    def test_thirty_figures(self):
        hall = hall_of(2, [(0, 1, LONG, 1), (1, 0, THIRTY_A, THIRTY_B), (0, 0, LONG, 1)])
        self.check(hall, [LONG, 0], [LONG * LONG, -LONG * THIRTY_B, LONG * (LONG - 1)])
        self.check(hall, [0, LONG], [-LONG, LONG * THIRTY_A, 0])

    def test_the_change_is_what_a_list_of_belts_tells(self):
        chance = random.Random(9)
        for turn in range(200):
            hall = chance_hall(chance, 6, 10, (1, 2, 3, LONG))
            counts = [chance.choice((0, 1, 5, LONG)) for name in hall.names()]
            expected = []
            for belt in range(len(hall.belts())):
                change = 0
                for work, count in enumerate(counts):
                    change += count * hall.belt_at(belt)[2] if belt in hall.leaving(work) else 0
                    change -= count * hall.belt_at(belt)[3] if belt in hall.entering(work) else 0
                expected.append(change)
            with self.subTest(belts=hall.belts(), counts=counts):
                self.check(hall, counts, expected)

    def test_as_many_belts_as_a_backed_hall_has(self):
        hall = hall_of(2, [(0, 1, 1 + belt, 2) for belt in range(2 * MOST_BELTS)])
        self.check(hall, [1, 1], [belt - 1 for belt in range(2 * MOST_BELTS)])

    def test_lists_are_the_askers_own(self):
        hall = hall_of(2, [(0, 1, 2, 3)])
        counts = [4, 1]
        told = change_of(hall, counts)
        counts[0] = 9
        hall.belt(0, 1, 1, 1)
        self.assertEqual(told, [5])
        told[0] = 8
        told.append(7)
        self.assertEqual(change_of(hall, [4, 1]), [5, 3])


class TestRates(RatesCase):
    def test_no_works(self):
        self.check_rates(hall_of(0), [])

    def test_works_without_belts(self):
        self.check_rates(hall_of(1), [1])
        self.check_rates(hall_of(30), [1] * 30)

    def test_one_belt(self):
        self.check_rates(hall_of(2, [(0, 1, 1, 1)]), [1, 1])
        self.check_rates(hall_of(2, [(0, 1, 2, 3)]), [3, 2])
        self.check_rates(hall_of(2, [(1, 0, 2, 3)]), [2, 3])
        self.check_rates(hall_of(2, [(0, 1, 6, 4)]), [2, 3])
        self.check_rates(hall_of(2, [(0, 1, 5, 1)]), [1, 5])
        self.check_rates(hall_of(2, [(0, 1, 1, 5)]), [5, 1])

    def test_starts_do_not_count(self):
        self.check_rates(hall_of(2, [(0, 1, 2, 3, 0)]), [3, 2])
        self.check_rates(hall_of(2, [(0, 1, 2, 3, LONG)]), [3, 2])

    def test_rows_of_belts(self):
        self.check_rates(hall_of(3, [(0, 1, 2, 3), (1, 2, 5, 4)]), [6, 4, 5])
        self.check_rates(hall_of(3, [(1, 2, 5, 4), (0, 1, 2, 3)]), [6, 4, 5])
        self.check_rates(hall_of(3, [(1, 0, 3, 2), (2, 1, 4, 5)]), [6, 4, 5])
        self.check_rates(hall_of(3, [(0, 1, 2, 1), (2, 1, 3, 1)]), [3, 6, 2])
        self.check_rates(hall_of(3, [(0, 2, 1, 2), (0, 1, 3, 2)]), [2, 3, 1])

    def test_from_a_work_to_itself(self):
        self.check_rates(hall_of(1, [(0, 0, 1, 1)]), [1])
        self.check_rates(hall_of(1, [(0, 0, 7, 7)]), [1])
        self.check_rates(hall_of(2, [(0, 1, 2, 3), (1, 1, 6, 6)]), [3, 2])

    def test_several_between_the_same_works(self):
        self.check_rates(hall_of(2, [(0, 1, 2, 3), (0, 1, 4, 6), (1, 0, 3, 2), (1, 0, 30, 20)]), [3, 2])

    def test_rings_that_fit(self):
        self.check_rates(hall_of(3, [(0, 1, 2, 1), (1, 2, 1, 3), (2, 0, 3, 2)]), [3, 6, 2])
        self.check_rates(hall_of(4, [(0, 1, 1, 2), (0, 2, 1, 3), (1, 3, 2, 1), (2, 3, 3, 1)]), [6, 3, 2, 6])

    def test_several_pieces(self):
        self.check_rates(hall_of(5, [(0, 3, 2, 3), (4, 1, 4, 2)]), [3, 2, 1, 2, 1])
        self.check_rates(hall_of(4, [(0, 1, 2, 3), (2, 3, 20, 30)]), [3, 2, 3, 2])
        self.check_rates(hall_of(4, [(0, 2, 1, 7), (1, 3, 7, 1)]), [7, 1, 1, 7])

    def test_long_rows(self):
        doubling = [(work, work + 1, 2, 1) for work in range(29)]
        self.check_rates(hall_of(30, doubling), [2 ** work for work in range(30)])
        self.check_rates(hall_of(30, doubling[::-1]), [2 ** work for work in range(30)])
        halving = [(work, work + 1, 1, 2) for work in range(29)]
        self.check_rates(hall_of(30, halving), [2 ** (29 - work) for work in range(30)])
        there_and_back = [(work, work + 1, 2, 3) if work % 2 else (work, work + 1, 3, 2) for work in range(29)]
        self.check_rates(hall_of(30, there_and_back), [2, 3] * 15)

    def test_many_figures(self):
        self.check_rates(hall_of(2, [(0, 1, THIRTY_A, THIRTY_B)]), [THIRTY_B, THIRTY_A])
        self.check_rates(hall_of(2, [(0, 1, LONG, LONG)]), [1, 1])
        row = [(work, work + 1, THIRTY_A, THIRTY_B) for work in range(29)]
        rates = [THIRTY_B ** (29 - work) * THIRTY_A ** work for work in range(30)]
        self.check_rates(hall_of(30, row), rates)
        self.check_rates(hall_of(30, row[::-1]), rates)
        star = [(0, work, THIRTY_A + 2 * work + 1, THIRTY_B + 2 * work) for work in range(1, 30)]
        self.check_rates(hall_of(30, star))

    def test_balanced_halls_of_any_kind(self):
        chance = random.Random(10)
        for turn in range(300):
            most_rate = chance.choice((1, 6, 30, 10 ** 9))
            hall = chance_balanced_hall(chance, chance.randrange(1, 31), chance.randrange(0, 121), most_rate)
            with self.subTest(belts=hall.belts()):
                self.check_rates(hall)

    def test_rates_are_told_just_where_the_hall_is_balanced(self):
        chance = random.Random(11)
        found = [0, 0]
        for turn in range(1000):
            hall = chance_hall(chance, 8, 10, (1, 1, 2, 3))
            with self.subTest(belts=hall.belts()):
                if is_balanced(hall):
                    found[0] += 1
                    self.check_rates(hall)
                else:
                    found[1] += 1
                    self.check_ring(hall)
        self.assertGreater(min(found), 100)

    def test_as_many_belts_as_a_backed_hall_has(self):
        belts = [(0, 1, 2, 3), (1, 2, 5, 4)] * 30
        belts += [(taker, giver, take, give) for giver, taker, give, take in belts]
        self.assertEqual(len(belts), 2 * MOST_BELTS)
        self.check_rates(hall_of(3, belts), [6, 4, 5])
        ring = self.check_ring(hall_of(3, belts[:-1] + [(2, 1, 4, 6)]))
        self.assertIn(119, [belt for belt, along in ring])

    def test_lists_are_the_askers_own(self):
        hall = hall_of(2, [(0, 1, 2, 3)])
        told = rates_of(hall)[0]
        hall.belt(0, 1, 1, 1)
        self.assertEqual(told, [3, 2])
        ring = rates_of(hall)[1]
        hall = hall_of(2, [(0, 1, 2, 3)])
        told[0] = 9
        told.append(9)
        self.assertEqual(rates_of(hall), ([3, 2], None))
        before = list(ring)
        hall.belt(0, 1, 1, 1)
        hall.work("more")
        self.assertEqual(ring, before)
        ring.clear()
        self.check_ring(hall)


class TestRings(RatesCase):
    def test_from_a_work_to_itself(self):
        self.assertEqual([belt for belt, along in self.check_ring(hall_of(1, [(0, 0, 1, 2)]))], [0])
        self.assertEqual([belt for belt, along in self.check_ring(hall_of(1, [(0, 0, 3, 2)]))], [0])
        hall = hall_of(3, [(0, 1, 2, 3), (1, 2, 1, 1), (2, 2, 1, 1), (2, 2, 5, 4), (2, 1, 1, 1)])
        self.assertEqual([belt for belt, along in self.check_ring(hall)], [3])

    def test_two_beside_one_another(self):
        for hall in (
            hall_of(2, [(0, 1, 1, 1), (0, 1, 1, 2)]),
            hall_of(2, [(0, 1, 1, 1), (1, 0, 1, 2)]),
            hall_of(2, [(1, 0, 1, 1), (0, 1, 1, 2)]),
            hall_of(2, [(1, 0, 1, 1), (1, 0, 1, 2)]),
            hall_of(2, [(0, 1, 2, 3), (1, 0, 2, 3)]),
            hall_of(2, [(0, 1, LONG, LONG - 1), (0, 1, LONG - 1, LONG - 2)]),
        ):
            with self.subTest(belts=hall.belts()):
                ring = self.check_ring(hall)
                self.assertEqual(sorted(belt for belt, along in ring), [0, 1])

    def test_the_one_that_does_not_fit(self):
        hall = hall_of(2, [(0, 1, 2, 3), (0, 1, 4, 6), (1, 0, 3, 2), (1, 0, 2, 3), (0, 1, 6, 9)])
        self.assertIn(3, [belt for belt, along in self.check_ring(hall)])

    def test_a_ring_of_three(self):
        for turned in product((False, True), repeat=3):
            sides = [(0, 1), (1, 2), (2, 0)]
            belts = [(side[::-1] if turn else side) + (1, 1 + (number == 1))
                     for number, (side, turn) in enumerate(zip(sides, turned))]
            with self.subTest(belts=belts):
                ring = self.check_ring(hall_of(3, belts))
                self.assertEqual(sorted(belt for belt, along in ring), [0, 1, 2])

    def test_belts_that_do_not_belong_to_the_ring(self):
        # A long handle, works 0 to 3, holds the ring of works 3, 4 and 5; a tail hangs behind it.
        handle = [(0, 1, 1, 1), (2, 1, 1, 1), (2, 3, 1, 1)]
        ring = [(3, 4, 1, 1), (4, 5, 1, 1), (3, 5, 2, 1)]
        tail = [(5, 6, 1, 1), (7, 6, 1, 1)]
        for belts in (handle + ring + tail, tail + ring + handle, (handle + ring + tail)[::-1]):
            with self.subTest(belts=belts):
                told = self.check_ring(hall_of(8, belts))
                self.assertEqual(sorted(belts[belt] for belt, along in told), sorted(ring))

    def test_in_a_later_piece(self):
        belts = [(0, 1, 2, 3), (2, 3, 1, 1), (3, 4, 1, 1), (4, 2, 1, 2)]
        self.assertEqual(sorted(belt for belt, along in self.check_ring(hall_of(6, belts))), [1, 2, 3])

    def test_a_ring_of_all_works(self):
        for take in (2, LONG):
            belts = [(work, (work + 1) % 30, 1, 1) for work in range(29)] + [(29, 0, 1, take)]
            for given in (belts, belts[::-1]):
                ring = self.check_ring(hall_of(30, given))
                self.assertEqual(sorted(belt for belt, along in ring), list(range(30)))

    def test_many_figures(self):
        row = [(work, work + 1, THIRTY_A, THIRTY_B) for work in range(29)]
        for back in ((29, 0, THIRTY_B, THIRTY_A), (0, 29, LONG, 1)):
            ring = self.check_ring(hall_of(30, row + [back]))
            self.assertEqual(len(ring), 30)
        self.check_rates(hall_of(30, row + [(28, 29, THIRTY_A, THIRTY_B)]))
        self.check_ring(hall_of(30, row + [(28, 29, THIRTY_A, THIRTY_B - 1)]))


class TestThePromise(RatesCase):
    """What the whole promises of rates, by trying all small counts."""

    def returns(self, hall, counts):
        lying = [0] * len(hall.belts())
        for belt, (giver, taker, give, take, start) in enumerate(hall.belts()):
            lying[belt] += give * counts[giver]
            lying[belt] -= take * counts[taker]
        return lying == [0] * len(lying)

    def one_multiple_in_each_piece(self, hall, rates, counts):
        for piece in pieces_of(hall):
            often = counts[piece[0]] // rates[piece[0]]
            if any(counts[work] != often * rates[work] for work in piece):
                return False
        return True

    def test_belts_come_back_just_at_multiples_of_the_rates(self):
        chance = random.Random(12)
        tried = 0
        while tried < 60:
            hall = chance_hall(chance, 4, 4, (1, 1, 2, 3))
            rates, ring = rates_of(hall)
            if rates is None or max(rates) > 6:
                continue
            tried += 1
            for counts in product(range(8), repeat=len(rates)):
                told = change_of(hall, list(counts)) == [0] * len(hall.belts())
                self.assertEqual(told, self.returns(hall, counts))
                self.assertEqual(told, self.one_multiple_in_each_piece(hall, rates, counts))

    def test_without_rates_no_counts_from_one_on_bring_all_belts_back(self):
        chance = random.Random(13)
        tried = 0
        while tried < 60:
            hall = chance_hall(chance, 4, 5, (1, 1, 2, 3))
            if rates_of(hall)[0] is not None:
                continue
            tried += 1
            self.check_ring(hall)
            for counts in product(range(1, 8), repeat=len(hall.names())):
                self.assertFalse(self.returns(hall, counts))

    def test_multiples_of_many_figures(self):
        hall = hall_of(4, [(0, 1, 2, 3), (3, 2, THIRTY_A, THIRTY_B)])
        rates = rates_of(hall)[0]
        self.assertEqual(rates, [3, 2, THIRTY_A, THIRTY_B])
        for one, other in ((0, 0), (1, 0), (0, LONG), (LONG, 7)):
            counts = [3 * one, 2 * one, THIRTY_A * other, THIRTY_B * other]
            self.assertEqual(change_of(hall, counts), [0, 0])
            for work in range(4):
                more = list(counts)
                more[work] += 1
                self.assertNotEqual(change_of(hall, more), [0, 0])


if __name__ == "__main__":
    unittest.main()
