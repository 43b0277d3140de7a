import unittest
from string import ascii_lowercase

from ratehall.errors import NoBelt, NoName, NoRate, NoWork, TooMuch, Twice
from ratehall.hall import MOST_BELTS, MOST_WORKS, Hall

LONG = 10 ** 30 - 1
LONG_TOO = 10 ** 29 + 7
NO_NAMES = ("", "Abc", "abcdefghi", "a b", "a1", " a", "a\n", "-", None, 0, ["a"], ("a",), {})
NO_NUMBERS = (None, "0", "a", [0], (0,), True, False)


def some_names(count):
    return [ascii_lowercase[number // 26] + ascii_lowercase[number % 26] for number in range(count)]


def hall_of(names, belts=()):
    hall = Hall()
    for name in names:
        hall.work(name)
    for belt in belts:
        hall.belt(*belt)
    return hall


def all_told(hall):
    works = range(len(hall.names()))
    return (
        hall.names(), [hall.number_of(name) for name in hall.names()],
        hall.belts(), [hall.belt_at(belt) for belt in range(len(hall.belts()))],
        [hall.entering(work) for work in works], [hall.leaving(work) for work in works],
    )


class HallCase(unittest.TestCase):
    def check_refused(self, hall, refusal, asked, *handed_in):
        before = all_told(hall)
        with self.subTest(asked=asked, handed_in=handed_in):
            with self.assertRaises(refusal) as refused:
                getattr(hall, asked)(*handed_in)
            self.assertIs(type(refused.exception), refusal)
            self.assertEqual(all_told(hall), before)

    def check_number(self, told, expected):
        self.assertIs(type(told), int)
        self.assertEqual(told, expected)


class TestWorks(HallCase):
    def test_the_bounds(self):
        self.assertEqual((MOST_WORKS, MOST_BELTS), (30, 60))

    def test_a_new_hall_is_empty(self):
        self.assertEqual(all_told(Hall()), ([], [], [], [], [], []))

    def test_each_work_gets_the_next_number(self):
        hall = Hall()
        for number, name in enumerate(("press", "a", "zzzzzzzz", "b")):
            self.check_number(hall.work(name), number)
        self.assertEqual(hall.names(), ["press", "a", "zzzzzzzz", "b"])
        for number, name in enumerate(("press", "a", "zzzzzzzz", "b")):
            self.check_number(hall.number_of(name), number)

    def test_works_and_belts_in_turn(self):
        hall = Hall()
        self.check_number(hall.work("b"), 0)
        self.check_number(hall.belt(0, 0, 1, 1), 0)
        self.check_number(hall.work("a"), 1)
        self.check_number(hall.belt(1, 0, 1, 1), 1)
        self.check_number(hall.work("c"), 2)
        self.check_number(hall.belt(2, 1, 1, 1), 2)
        self.assertEqual(hall.names(), ["b", "a", "c"])
        self.assertEqual(hall.belts(), [(0, 0, 1, 1, 0), (1, 0, 1, 1, 0), (2, 1, 1, 1, 0)])

    def test_no_name(self):
        hall = hall_of(["a"])
        for name in NO_NAMES:
            self.check_refused(hall, NoName, "work", name)

    def test_twice(self):
        hall = hall_of(["a", "b", "c"])
        for name in ("a", "b", "c"):
            self.check_refused(hall, Twice, "work", name)
        self.check_number(hall.work("ab"), 3)

    def test_too_much(self):
        names = some_names(32)
        hall = hall_of(names[:29])
        self.check_number(hall.work(names[29]), 29)
        for name in names[30:]:
            self.check_refused(hall, TooMuch, "work", name)
        self.assertEqual(hall.names(), names[:30])

    def test_the_order_of_refusals(self):
        names = some_names(30)
        hall = hall_of(names)
        for name in NO_NAMES:
            self.check_refused(hall, NoName, "work", name)
        for name in names:
            self.check_refused(hall, Twice, "work", name)

    def test_belts_may_be_put_to_a_hall_full_of_works(self):
        hall = hall_of(some_names(30))
        self.check_number(hall.belt(29, 0, 1, 1), 0)


class TestBelts(HallCase):
    def test_each_belt_gets_the_next_number(self):
        hall = hall_of(["a", "b", "c"])
        self.check_number(hall.belt(0, 1, 2, 3, 4), 0)
        self.check_number(hall.belt(2, 1, 5, 6, 7), 1)
        self.check_number(hall.belt(1, 0, 1, 1, 0), 2)
        self.assertEqual(hall.belts(), [(0, 1, 2, 3, 4), (2, 1, 5, 6, 7), (1, 0, 1, 1, 0)])
        self.assertEqual([type(belt) for belt in hall.belts()], [tuple, tuple, tuple])
        self.assertEqual(hall.belt_at(0), (0, 1, 2, 3, 4))
        self.assertEqual(hall.belt_at(1), (2, 1, 5, 6, 7))
        self.assertEqual(hall.belt_at(2), (1, 0, 1, 1, 0))
        self.assertIs(type(hall.belt_at(2)), tuple)

    def test_a_start_left_out_is_nought(self):
        hall = hall_of(["a", "b"])
        hall.belt(0, 1, 2, 3)
        hall.belt(giver=1, taker=0, give=4, take=5)
        hall.belt(giver=1, taker=0, give=4, take=5, start=6)
        self.assertEqual(hall.belts(), [(0, 1, 2, 3, 0), (1, 0, 4, 5, 0), (1, 0, 4, 5, 6)])

    def test_from_a_work_to_itself(self):
        hall = hall_of(["a", "b"], [(0, 1, 1, 1), (1, 1, 2, 3, 4), (1, 0, 1, 1)])
        self.assertEqual(hall.belt_at(1), (1, 1, 2, 3, 4))
        self.assertEqual(hall.entering(1), [0, 1])
        self.assertEqual(hall.leaving(1), [1, 2])

    def test_several_between_the_same_works(self):
        belts = [(0, 1, 1, 2, 0), (1, 0, 1, 2, 0), (0, 1, 1, 2, 0), (0, 1, 3, 2, 5), (1, 0, 7, 7, 7)]
        hall = hall_of(["a", "b"], belts)
        self.assertEqual(hall.belts(), belts)
        self.assertEqual(hall.entering(0), [1, 4])
        self.assertEqual(hall.leaving(0), [0, 2, 3])
        self.assertEqual(hall.entering(1), [0, 2, 3])
        self.assertEqual(hall.leaving(1), [1, 4])

    def test_entering_and_leaving_rise(self):
        hall = hall_of(["a", "b", "c"], [(2, 0, 1, 1), (1, 0, 1, 1), (0, 0, 1, 1), (0, 2, 1, 1), (2, 0, 1, 1)])
        self.assertEqual(hall.entering(0), [0, 1, 2, 4])
        self.assertEqual(hall.leaving(0), [2, 3])
        self.assertEqual(hall.entering(1), [])
        self.assertEqual(hall.leaving(1), [1])
        self.assertEqual(hall.entering(2), [3])
        self.assertEqual(hall.leaving(2), [0, 4])

    def test_numbers_of_thirty_figures(self):
        hall = hall_of(["a", "b"], [(0, 1, LONG, LONG_TOO, LONG)])
        self.assertEqual(hall.belt_at(0), (0, 1, LONG, LONG_TOO, LONG))

    def test_the_least_numbers(self):
        hall = hall_of(["a"])
        self.check_number(hall.belt(0, 0, 1, 1, 0), 0)

    def test_no_work(self):
        hall = hall_of(["a", "b"], [(0, 1, 1, 1)])
        for number in (-1, -2, 2, 3, 30, LONG, -LONG) + NO_NUMBERS:
            self.check_refused(hall, NoWork, "belt", number, 0, 1, 1)
            self.check_refused(hall, NoWork, "belt", 1, number, 1, 1)
            self.check_refused(hall, NoWork, "belt", number, number, 1, 1)
        self.check_refused(Hall(), NoWork, "belt", 0, 0, 1, 1)

    def test_no_rate(self):
        hall = hall_of(["a", "b"], [(0, 1, 1, 1)])
        for number in (0, -1, -LONG, None, "1", True):
            self.check_refused(hall, NoRate, "belt", 0, 1, number, 1, 0)
            self.check_refused(hall, NoRate, "belt", 0, 1, 1, number, 0)
        for number in (-1, -2, -LONG, None, "1", True, False):
            self.check_refused(hall, NoRate, "belt", 0, 1, 1, 1, number)

    def test_too_much(self):
        hall = hall_of(["a", "b"], [(0, 1, 1, 1)] * 59)
        self.check_number(hall.belt(1, 0, 2, 3, 4), 59)
        self.assertEqual(hall.belt_at(59), (1, 0, 2, 3, 4))
        self.check_refused(hall, TooMuch, "belt", 0, 1, 1, 1)
        self.check_refused(hall, TooMuch, "belt", 1, 1, 2, 3, 4)

    def test_the_order_of_refusals(self):
        hall = hall_of(["a", "b"], [(0, 1, 1, 1)])
        full = hall_of(["a", "b"], [(0, 1, 1, 1)] * 60)
        for given in (hall, full):
            self.check_refused(given, NoWork, "belt", 2, 0, 0, 1, 0)
            self.check_refused(given, NoWork, "belt", 0, 2, 1, 0, 0)
            self.check_refused(given, NoWork, "belt", 0, -1, 1, 1, -1)
            self.check_refused(given, NoWork, "belt", -1, -1, 0, 0, -1)
            self.check_refused(given, NoRate, "belt", 0, 1, 0, 1, 0)
            self.check_refused(given, NoRate, "belt", 0, 1, 1, 0, 0)
            self.check_refused(given, NoRate, "belt", 0, 1, 1, 1, -1)
        self.check_refused(full, NoWork, "belt", 2, 0, 1, 1)

    def test_works_may_be_put_to_a_hall_full_of_belts(self):
        hall = hall_of(["a"], [(0, 0, 1, 1)] * 60)
        self.check_number(hall.work("b"), 1)


class TestFilling(HallCase):
    def test_another_start(self):
        hall = hall_of(["a", "b"], [(0, 1, 2, 3, 4), (1, 0, 5, 6, 7)])
        self.assertIs(hall.fill(1, 8), True)
        self.assertEqual(hall.belts(), [(0, 1, 2, 3, 4), (1, 0, 5, 6, 8)])
        self.assertIs(hall.fill(0, 0), True)
        self.assertEqual(hall.belts(), [(0, 1, 2, 3, 0), (1, 0, 5, 6, 8)])
        self.assertIs(hall.fill(0, LONG), True)
        self.assertEqual(hall.belt_at(0), (0, 1, 2, 3, LONG))
        self.assertIs(type(hall.belt_at(0)), tuple)

    def test_the_same_start(self):
        hall = hall_of(["a", "b"], [(0, 1, 2, 3), (1, 0, 5, 6, LONG)])
        self.assertIs(hall.fill(0, 0), False)
        self.assertIs(hall.fill(1, LONG), False)
        self.assertEqual(hall.belts(), [(0, 1, 2, 3, 0), (1, 0, 5, 6, LONG)])
        self.assertIs(hall.fill(0, 1), True)
        self.assertIs(hall.fill(0, 1), False)
        self.assertIs(hall.fill(0, 0), True)

    def test_no_belt(self):
        hall = hall_of(["a", "b", "c"], [(0, 1, 2, 3, 4), (1, 0, 5, 6, 7)])
        for number in (-1, -2, 2, 3, 60, LONG, -LONG) + NO_NUMBERS:
            self.check_refused(hall, NoBelt, "fill", number, 0)
            self.check_refused(hall, NoBelt, "fill", number, -1)
        self.check_refused(Hall(), NoBelt, "fill", 0, 0)

    def test_no_rate(self):
        hall = hall_of(["a", "b"], [(0, 1, 2, 3, 0), (1, 0, 5, 6, 1)])
        for start in (-1, -LONG, None, "1", True, False):
            self.check_refused(hall, NoRate, "fill", 0, start)
            self.check_refused(hall, NoRate, "fill", 1, start)

    def test_the_last_belt_of_a_full_hall(self):
        hall = hall_of(["a"], [(0, 0, 1, 1)] * 60)
        self.assertIs(hall.fill(59, 5), True)
        self.assertEqual(hall.belts(), [(0, 0, 1, 1, 0)] * 59 + [(0, 0, 1, 1, 5)])


class TestQuestions(HallCase):
    def test_no_work(self):
        hall = hall_of(["a", "b"], [(0, 1, 1, 1), (0, 1, 1, 1), (0, 1, 1, 1)])
        for number in (-1, -2, 2, 3, LONG, -LONG) + NO_NUMBERS:
            self.check_refused(hall, NoWork, "entering", number)
            self.check_refused(hall, NoWork, "leaving", number)
        self.check_refused(Hall(), NoWork, "entering", 0)
        self.check_refused(Hall(), NoWork, "leaving", 0)

    def test_no_belt(self):
        hall = hall_of(["a", "b", "c"], [(0, 1, 1, 1)])
        for number in (-1, 1, 2, LONG, -LONG) + NO_NUMBERS:
            self.check_refused(hall, NoBelt, "belt_at", number)
        self.check_refused(Hall(), NoBelt, "belt_at", 0)

    def test_no_name(self):
        hall = hall_of(["a", "b"])
        for name in ("c", "ab", "aa") + NO_NAMES:
            self.check_refused(hall, NoName, "number_of", name)
        self.check_refused(Hall(), NoName, "number_of", "a")


class TestLists(HallCase):
    def test_lists_that_were_told_are_the_askers_own(self):
        hall = hall_of(["a", "b"], [(0, 1, 2, 3, 4), (1, 1, 5, 6, 7)])
        before = all_told(hall)
        for ask in (hall.names, hall.belts, lambda: hall.entering(1), lambda: hall.leaving(1)):
            told = ask()
            self.assertIs(type(told), list)
            self.assertIsNot(ask(), told)
            told.append("more")
            self.assertEqual(all_told(hall), before)
            told[0] = "another"
            self.assertEqual(all_told(hall), before)
            told.clear()
            self.assertEqual(all_told(hall), before)

    def test_lists_that_were_told_stay(self):
        hall = hall_of(["a", "b"], [(0, 1, 2, 3, 4)])
        told = (hall.names(), hall.belts(), hall.entering(1), hall.leaving(0))
        hall.work("c")
        hall.belt(0, 1, 1, 1)
        hall.fill(0, 9)
        self.assertEqual(told, (["a", "b"], [(0, 1, 2, 3, 4)], [0], [0]))

    def test_halls_stand_by_themselves(self):
        one, other = Hall(), Hall()
        one.work("a")
        one.belt(0, 0, 1, 1)
        self.assertEqual(all_told(other), ([], [], [], [], [], []))


class TestMoreBelts(HallCase):
    """A backed hall has up to twice as many belts as may be put one by one."""

    def test_laid_belts(self):
        hall = hall_of(["a", "b"])
        for number in range(2 * MOST_BELTS):
            self.check_number(hall.lay((number % 2, 1, 1 + number, 2, 3)), number)
        self.assertEqual(hall.belt_at(119), (1, 1, 120, 2, 3))
        self.assertEqual(hall.leaving(0), list(range(0, 120, 2)))
        self.assertEqual(hall.entering(1), list(range(120)))
        self.assertIs(hall.fill(119, 4), True)
        self.assertEqual(hall.belts()[119], (1, 1, 120, 2, 4))
        self.check_refused(hall, NoBelt, "belt_at", 120)


if __name__ == "__main__":
    unittest.main()
