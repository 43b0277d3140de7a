import random
import unittest
from string import ascii_lowercase

from ratehall.errors import Empty, NoWork, RateError
from ratehall.floor import Floor
from ratehall.hall import MOST_BELTS, Hall
from ratehall.rates import change_of, rates_of

LONG = 10 ** 30 - 1
NO_NUMBERS = (None, "0", "a", [0], (0,), True, False)


def hall_of(works, belts=()):
    """A hall of so many works; belts are laid, so that there may be as many as a backed hall has."""
    hall = Hall()
    for number in range(works):
        hall.work(ascii_lowercase[number // 26] + ascii_lowercase[number % 26])
    for belt in belts:
        hall.lay(tuple(belt) + (0,) * (5 - len(belt)))
    return hall


def all_told(floor, works):
    return (floor.lying(), [floor.ready(work) for work in range(works)])


class PlainFloor:
    """Does turns belt by belt, as the document's words tell them."""

    def __init__(self, works, belts):
        self.works = works
        self.belts = belts
        self.heaps = [belt[4] for belt in belts]

    def refusal(self, work):
        if work not in range(self.works):
            return NoWork
        for (giver, taker, give, take, start), heap in zip(self.belts, self.heaps):
            if taker == work and heap < take:
                return Empty
        return None

    def turn(self, work):
        for belt, (giver, taker, give, take, start) in enumerate(self.belts):
            self.heaps[belt] += (give if giver == work else 0) - (take if taker == work else 0)

    def go(self, row):
        before = list(self.heaps)
        for work in row:
            refusal = self.refusal(work)
            if refusal is not None:
                self.heaps = before
                return refusal
            self.turn(work)
        return None


class FloorCase(unittest.TestCase):
    def check_refused(self, floor, works, refusal, asked, handed_in):
        before = all_told(floor, works)
        with self.subTest(asked=asked, handed_in=handed_in):
            with self.assertRaises(refusal) as refused:
                getattr(floor, asked)(handed_in)
            self.assertIs(type(refused.exception), refusal)
            self.assertEqual(all_told(floor, works), before)


class TestReady(FloorCase):
    def test_no_belt_leads_to_it(self):
        self.assertIs(Floor(hall_of(1)).ready(0), True)
        self.assertIs(Floor(hall_of(2, [(0, 1, 1, 1)])).ready(0), True)

    def test_enough_or_too_few(self):
        for start, expected in ((0, False), (1, False), (2, False), (3, True), (4, True), (LONG, True)):
            with self.subTest(start=start):
                self.assertIs(Floor(hall_of(2, [(0, 1, 5, 3, start)])).ready(1), expected)

    def test_each_belt_counts(self):
        for one, other in ((2, 3), (1, 3), (2, 2), (1, 2), (0, 9), (9, 0)):
            hall = hall_of(3, [(0, 2, 1, 2, one), (1, 2, 1, 3, other)])
            with self.subTest(one=one, other=other):
                self.assertIs(Floor(hall).ready(2), one >= 2 and other >= 3)

    def test_belts_that_lead_elsewhere_do_not_count(self):
        hall = hall_of(3, [(0, 1, 1, 5, 0), (0, 2, 1, 1, 1), (2, 0, 1, 1, 0)])
        floor = Floor(hall)
        self.assertEqual([floor.ready(work) for work in range(3)], [False, False, True])

    def test_from_a_work_to_itself(self):
        self.assertIs(Floor(hall_of(1, [(0, 0, 5, 2, 2)])).ready(0), True)
        self.assertIs(Floor(hall_of(1, [(0, 0, 5, 2, 1)])).ready(0), False)

    def test_asking_changes_nothing(self):
        floor = Floor(hall_of(2, [(0, 1, 1, 1, 1)]))
        for turn in range(3):
            self.assertIs(floor.ready(1), True)
            self.assertEqual(floor.lying(), [1])

    def test_no_work(self):
        floor = Floor(hall_of(2, [(0, 1, 1, 1), (0, 1, 1, 1), (0, 1, 1, 1)]))
        for number in (-1, -2, 2, 3, LONG, -LONG) + NO_NUMBERS:
            self.check_refused(floor, 2, NoWork, "ready", number)
        self.check_refused(Floor(Hall()), 0, NoWork, "ready", 0)


class TestTurn(FloorCase):
    def test_at_first_the_starts_lie_there(self):
        self.assertEqual(Floor(Hall()).lying(), [])
        self.assertEqual(Floor(hall_of(2)).lying(), [])
        self.assertEqual(Floor(hall_of(2, [(0, 1, 1, 1, 4), (1, 0, 1, 1, 0), (0, 0, 1, 1, LONG)])).lying(), [4, 0, LONG])

    def test_takes_and_gives(self):
        floor = Floor(hall_of(3, [(0, 1, 2, 3, 4), (1, 2, 5, 6, 0), (2, 0, 7, 1, 1), (1, 0, 8, 1, 9)]))
        self.assertIsNone(floor.turn(1))
        self.assertEqual(floor.lying(), [1, 5, 1, 17])
        self.assertIsNone(floor.turn(0))
        self.assertEqual(floor.lying(), [3, 5, 0, 16])
        self.assertIsNone(floor.turn(1))
        self.assertEqual(floor.lying(), [0, 10, 0, 24])
        self.assertIsNone(floor.turn(2))
        self.assertEqual(floor.lying(), [0, 4, 7, 24])

    def test_ready_follows_the_turns(self):
        floor = Floor(hall_of(2, [(0, 1, 2, 3)]))
        told = []
        for work in (0, 0, 1, 0):
            told.append(floor.ready(1))
            floor.turn(work)
        told.append(floor.ready(1))
        self.assertEqual(told, [False, False, True, False, True])

    def test_a_work_without_belts(self):
        floor = Floor(hall_of(1))
        self.assertIsNone(floor.turn(0))
        self.assertEqual(floor.lying(), [])

    def test_several_between_the_same_works(self):
        floor = Floor(hall_of(2, [(0, 1, 1, 2), (0, 1, 3, 2), (1, 0, 4, 1, 1), (0, 1, 1, 2, 5)]))
        floor.turn(0)
        self.assertEqual(floor.lying(), [1, 3, 0, 6])
        self.check_refused(floor, 2, Empty, "turn", 1)
        self.check_refused(floor, 2, Empty, "turn", 0)

    def test_from_a_work_to_itself(self):
        floor = Floor(hall_of(1, [(0, 0, 5, 2, 2)]))
        floor.turn(0)
        self.assertEqual(floor.lying(), [5])
        floor.turn(0)
        self.assertEqual(floor.lying(), [8])

    def test_what_is_given_cannot_be_taken_in_the_same_turn(self):
        self.check_refused(Floor(hall_of(1, [(0, 0, 5, 2, 1)])), 1, Empty, "turn", 0)
        self.check_refused(Floor(hall_of(1, [(0, 0, 1, 1, 0)])), 1, Empty, "turn", 0)

    def test_a_belt_to_itself_that_runs_out(self):
        floor = Floor(hall_of(1, [(0, 0, 1, 3, 7)]))
        for heap in (5, 3, 1):
            floor.turn(0)
            self.assertEqual(floor.lying(), [heap])
        self.check_refused(floor, 1, Empty, "turn", 0)

    def test_empty(self):
        floor = Floor(hall_of(3, [(0, 2, 1, 2, 2), (1, 2, 1, 3, 2), (2, 0, 1, 1, 0)]))
        self.check_refused(floor, 3, Empty, "turn", 2)
        self.check_refused(floor, 3, Empty, "turn", 0)
        floor.turn(1)
        floor.turn(2)
        self.assertEqual(floor.lying(), [0, 0, 1])

    def test_no_work(self):
        floor = Floor(hall_of(2, [(0, 1, 1, 1), (1, 0, 1, 1)]))
        for number in (-1, -2, 2, 3, LONG, -LONG) + NO_NUMBERS:
            self.check_refused(floor, 2, NoWork, "turn", number)
        self.check_refused(Floor(Hall()), 0, NoWork, "turn", 0)

    def test_thirty_figures(self):
        floor = Floor(hall_of(2, [(0, 1, LONG, LONG, LONG), (1, 0, 1, LONG, LONG)]))
        floor.turn(0)
        self.assertEqual(floor.lying(), [2 * LONG, 0])
        floor.turn(1)
        floor.turn(1)
        self.assertEqual(floor.lying(), [0, 2])
        self.check_refused(floor, 2, Empty, "turn", 1)
        self.check_refused(floor, 2, Empty, "turn", 0)


class TestGo(FloorCase):
    def test_a_row(self):
        hall = hall_of(2, [(0, 1, 2, 3, 1), (1, 0, 3, 2, 4)])
        floor = Floor(hall)
        self.assertIsNone(floor.go([0, 1, 0, 0, 1]))
        self.assertEqual(floor.lying(), [1, 4])
        self.assertIsNone(floor.go([0]))
        self.assertEqual(floor.lying(), [3, 2])

    def test_the_empty_row(self):
        for floor in (Floor(Hall()), Floor(hall_of(2)), Floor(hall_of(2, [(0, 1, 1, 1, 5)]))):
            before = floor.lying()
            self.assertIsNone(floor.go([]))
            self.assertEqual(floor.lying(), before)

    def test_from_the_first_to_the_last(self):
        hall = hall_of(2, [(0, 1, 1, 1)])
        floor = Floor(hall)
        self.check_refused(floor, 2, Empty, "go", [1, 0])
        floor.go([0, 1])
        self.assertEqual(floor.lying(), [0])

    def test_whole_or_not_at_all(self):
        floor = Floor(hall_of(3, [(0, 1, 1, 1), (1, 2, 1, 2)]))
        for row in ([1], [0, 1, 2], [0, 0, 1, 1, 1], [0, 1, 0, 1, 2, 2], [0] * 2999 + [2]):
            self.check_refused(floor, 3, Empty, "go", row)
        floor.go([0, 0, 1])
        for row in ([2], [1, 1], [0, 2]):
            self.check_refused(floor, 3, Empty, "go", row)
        self.assertEqual(floor.lying(), [1, 1])

    def test_refused_as_the_first_that_cannot_be_done(self):
        floor = Floor(hall_of(2, [(0, 1, 1, 1)]))
        self.check_refused(floor, 2, Empty, "go", [1, 2])
        self.check_refused(floor, 2, Empty, "go", [0, 1, 1, -1, 0])
        self.check_refused(floor, 2, NoWork, "go", [2, 1])
        self.check_refused(floor, 2, NoWork, "go", [0, 1, -1, 1])
        self.check_refused(floor, 2, NoWork, "go", [0, 1, 0, 1, LONG])
        for number in NO_NUMBERS:
            self.check_refused(floor, 2, NoWork, "go", [0, number, 1, 1])
            self.check_refused(floor, 2, Empty, "go", [0, 1, 1, number])

    def test_no_work_behind_turns_that_could_be_done(self):
        floor = Floor(hall_of(2, [(0, 1, 1, 1, 3), (1, 0, 1, 1, 3)]))
        for number in (-1, 2, 30, LONG, -LONG):
            self.check_refused(floor, 2, NoWork, "go", [0, 1, 0, number])
        self.check_refused(Floor(Hall()), 0, NoWork, "go", [0])

    def test_long_rows(self):
        floor = Floor(hall_of(2, [(0, 1, 2, 3), (1, 1, 1, 1, 1)]))
        row = [0, 0, 1, 0, 1] * 600
        floor.go(row)
        self.assertEqual(floor.lying(), [0, 1])
        floor.go([0] * 3000)
        self.assertEqual(floor.lying(), [6000, 1])
        floor.go([1] * 2000)
        self.assertEqual(floor.lying(), [0, 1])
        self.check_refused(floor, 2, Empty, "go", [0] * 1500 + [1] * 1001)

    def test_the_row_handed_in_stays(self):
        floor = Floor(hall_of(2, [(0, 1, 1, 1)]))
        for row in ([0, 0, 1], []):
            before = list(row)
            floor.go(row)
            self.assertEqual(row, before)
        for row in ([0, 1, 1, 1], [0, 2, 1]):
            before = list(row)
            with self.assertRaises(RateError):
                floor.go(row)
            self.assertEqual(row, before)

    def test_what_is_done_later_to_the_row_changes_nothing(self):
        floor = Floor(hall_of(2, [(0, 1, 1, 1)]))
        row = [0, 0, 1]
        floor.go(row)
        row.append(1)
        row[0] = 9
        self.assertEqual(all_told(floor, 2), ([1], [True, True]))
        row.clear()
        floor.turn(0)
        self.assertEqual(floor.lying(), [2])

    def test_the_rates_bring_all_belts_back(self):
        hall = hall_of(3, [(0, 1, 2, 3), (1, 2, 5, 4), (0, 2, 5, 6, 1)])
        rates = rates_of(hall)[0]
        floor = Floor(hall)
        floor.go([work for work, rate in enumerate(rates) for turn in range(rate)])
        self.assertEqual(floor.lying(), [0, 0, 1])

    def test_the_change_is_what_turns_do(self):
        hall = hall_of(3, [(0, 1, 2, 3, 50), (1, 2, 5, 4, 50), (2, 0, 1, 6, 90), (1, 1, 2, 3, 60)])
        floor = Floor(hall)
        floor.go([2, 0, 1, 1, 0, 2, 2, 1, 1])
        change = change_of(hall, [2, 4, 3])
        self.assertEqual(floor.lying(), [start + more for start, more in zip([50, 50, 90, 60], change)])

    def test_floors_of_any_kind(self):
        chance = random.Random(12)
        found = {None: 0, Empty: 0, NoWork: 0}
        for turn in range(200):
            works = chance.randrange(1, 6)
            belts = [(chance.randrange(works), chance.randrange(works), chance.randrange(1, 4), chance.randrange(1, 4),
                      chance.randrange(6)) for belt in range(chance.randrange(8))]
            floor, plain = Floor(hall_of(works, belts)), PlainFloor(works, belts)
            for row in range(20):
                row = [chance.randrange(works) for work in range(chance.randrange(5))]
                if chance.randrange(6) == 0:
                    row.insert(chance.randrange(len(row) + 1), chance.choice((-1, works, works + 1)))
                told = None
                try:
                    floor.go(row)
                except RateError as refusal:
                    told = type(refusal)
                with self.subTest(belts=belts, row=row):
                    self.assertEqual(told, plain.go(row))
                    self.assertEqual(floor.lying(), plain.heaps)
                    for work in range(works):
                        self.assertIs(floor.ready(work), plain.refusal(work) is None)
                found[told] += 1
        self.assertGreater(min(found.values()), 100)

    def test_as_many_belts_as_a_backed_hall_has(self):
        belts = [(0, 1, 1, 2, belt) for belt in range(MOST_BELTS)]
        belts += [(1, 0, 2, 1, 2) for belt in range(MOST_BELTS)]
        floor = Floor(hall_of(2, belts))
        self.check_refused(floor, 2, Empty, "go", [0, 0, 0])
        floor.go([0, 0, 1])
        self.assertEqual(floor.lying(), list(range(MOST_BELTS)) + [2] * MOST_BELTS)
        belts[119] = (1, 0, 2, 1, 1)
        self.check_refused(Floor(hall_of(2, belts)), 2, Empty, "go", [0, 0, 1])


class TestKept(FloorCase):
    def test_what_is_put_to_the_hall_later(self):
        hall = hall_of(2, [(0, 1, 2, 3, 4), (1, 0, 1, 1, 1)])
        floor, same = Floor(hall), Floor(hall_of(2, [(0, 1, 2, 3, 4), (1, 0, 1, 1, 1)]))
        hall.fill(0, 0)
        hall.fill(1, 7)
        self.assertEqual(all_told(floor, 2), all_told(same, 2))
        hall.belt(0, 1, 1, 9)
        hall.belt(0, 0, 1, 9)
        self.assertEqual(all_told(floor, 2), all_told(same, 2))
        hall.work("more")
        hall.belt(2, 0, 1, 9)
        for asked, handed_in in (("ready", 2), ("turn", 2), ("go", [0, 2])):
            self.check_refused(floor, 2, NoWork, asked, handed_in)
        for each in (floor, same):
            each.go([1, 0, 0])
        self.assertEqual(all_told(floor, 2), all_told(same, 2))
        self.assertEqual(floor.lying(), [5, 0])
        later = Floor(hall)
        self.assertEqual(later.lying(), [0, 7, 0, 0, 0])
        self.assertIs(later.ready(2), True)

    def test_turns_change_no_hall(self):
        hall = hall_of(2, [(0, 1, 2, 3, 4)])
        floor = Floor(hall)
        floor.go([0, 0, 1])
        self.assertEqual(hall.belts(), [(0, 1, 2, 3, 4)])
        self.assertEqual(hall.names(), ["aa", "ab"])
        self.assertEqual(Floor(hall).lying(), [4])

    def test_two_floors_of_one_hall(self):
        hall = hall_of(2, [(0, 1, 2, 3, 4)])
        one, other = Floor(hall), Floor(hall)
        one.go([0, 0])
        self.assertEqual((one.lying(), other.lying()), ([8], [4]))
        other.turn(1)
        self.assertEqual((one.lying(), other.lying()), ([8], [1]))
        self.assertEqual((one.ready(1), other.ready(1)), (True, False))

    def test_lying_is_a_new_list_each_time(self):
        floor = Floor(hall_of(2, [(0, 1, 2, 3, 4), (1, 0, 1, 1, 1)]))
        told = floor.lying()
        self.assertIs(type(told), list)
        self.assertIsNot(floor.lying(), told)
        told[0] = 0
        told.append(9)
        self.assertEqual(all_told(floor, 2), ([4, 1], [True, True]))
        told = floor.lying()
        floor.turn(0)
        self.assertEqual(told, [4, 1])
        told = floor.lying()
        floor.go([1])
        self.assertEqual(told, [6, 0])
        told.clear()
        self.assertEqual(floor.lying(), [3, 1])


if __name__ == "__main__":
    unittest.main()
