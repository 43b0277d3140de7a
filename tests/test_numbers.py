import unittest
from fractions import Fraction
from math import gcd, lcm

from ratehall.numbers import divisor, is_from, is_number_below, is_whole, multiple, ratio, times, turned

# Two of thirty figures without a common divisor but 1, and one more to put into both.
THIRTY_A = 2 ** 99
THIRTY_B = 3 ** 62
THIRTY_C = 10 ** 29 + 7


def neighbours(figures):
    """Two neighbouring Fibonacci numbers, which need the most steps of all numbers of their length."""
    one, other = 1, 1
    while other < 10 ** figures:
        one, other = other, one + other
    return one, other


class TestDivisor(unittest.TestCase):
    def check(self, one, other, expected):
        for told in (divisor(one, other), divisor(other, one)):
            self.assertEqual(told, expected)
            self.assertIs(type(told), int)

    def test_ordinary_numbers(self):
        self.check(12, 18, 6)
        self.check(100, 75, 25)
        self.check(48, 180, 12)
        self.check(1, 9, 1)
        self.check(270, 192, 6)

    def test_the_greatest_that_divides_both(self):
        for one in range(1, 41):
            for other in range(1, 41):
                common = [number for number in range(1, 41) if one % number == 0 and other % number == 0]
                with self.subTest(one=one, other=other):
                    self.check(one, other, max(common))

    def test_nought_and_another_one(self):
        for other in (1, 2, 7, 30, THIRTY_C, 10 ** 400 + 1):
            with self.subTest(other=other):
                self.check(0, other, other)

    def test_nought_and_nought(self):
        self.check(0, 0, 0)

    def test_a_number_and_itself(self):
        for one in (1, 2, 7, 36, THIRTY_A, 10 ** 400 + 1):
            with self.subTest(one=one):
                self.check(one, one, one)

    def test_a_number_and_its_multiple(self):
        for one in (1, 2, 7, 36, THIRTY_B, 10 ** 400 + 1):
            for often in (2, 3, 10, 9999, THIRTY_C):
                with self.subTest(one=one, often=often):
                    self.check(one, one * often, one)

    def test_no_common_divisor_but_one(self):
        self.check(8, 9, 1)
        self.check(35, 64, 1)
        self.check(999, 1000, 1)
        self.check(THIRTY_A, THIRTY_B, 1)
        self.check(2 ** 1000, 3 ** 1000, 1)

    def test_thirty_figures(self):
        one, other = 2 ** 50 * 3 ** 31, 2 ** 40 * 5 ** 25
        self.assertEqual((len(str(one)), len(str(other))), (30, 30))
        self.check(one, other, 2 ** 40)
        self.check(THIRTY_C, THIRTY_C + 6, gcd(THIRTY_C, 6))

    def test_some_hundred_figures(self):
        self.check(THIRTY_C * 2 ** 1000, THIRTY_C * 3 ** 700, gcd(THIRTY_C * 2 ** 1000, THIRTY_C * 3 ** 700))
        self.check(7 ** 300 * 2 ** 500, 7 ** 200 * 5 ** 300, 7 ** 200)

    def test_as_many_steps_as_there_can_be(self):
        for figures in (30, 300, 3000):
            one, other = neighbours(figures)
            with self.subTest(figures=figures):
                self.check(one, other, 1)
                self.check(one * THIRTY_C, other * THIRTY_C, THIRTY_C)

    def test_more_figures_than_python_writes(self):
        self.check(10 ** 6000, 6 ** 6000, 2 ** 6000)


class TestMultiple(unittest.TestCase):
    def check(self, one, other, expected):
        for told in (multiple(one, other), multiple(other, one)):
            self.assertEqual(told, expected)
            self.assertIs(type(told), int)

    def test_ordinary_numbers(self):
        self.check(4, 6, 12)
        self.check(21, 6, 42)
        self.check(10, 15, 30)
        self.check(100, 75, 300)

    def test_the_least_that_both_divide(self):
        for one in range(1, 31):
            for other in range(1, 31):
                both = [number for number in range(1, one * other + 1) if number % one == 0 and number % other == 0]
                with self.subTest(one=one, other=other):
                    self.check(one, other, min(both))

    def test_one_and_another_one(self):
        for other in (1, 2, 7, THIRTY_C, 10 ** 400 + 1):
            with self.subTest(other=other):
                self.check(1, other, other)

    def test_a_number_and_itself(self):
        for one in (2, 7, 36, THIRTY_A, 10 ** 400 + 1):
            with self.subTest(one=one):
                self.check(one, one, one)

    def test_a_number_and_its_multiple(self):
        for one in (2, 7, 36, THIRTY_B, 10 ** 400 + 1):
            for often in (2, 3, 10, 9999, THIRTY_C):
                with self.subTest(one=one, often=often):
                    self.check(one, one * often, one * often)

    def test_no_common_divisor_but_one(self):
        self.check(8, 9, 72)
        self.check(35, 64, 2240)
        self.check(THIRTY_A, THIRTY_B, THIRTY_A * THIRTY_B)
        self.check(2 ** 1000, 3 ** 1000, 6 ** 1000)

    def test_thirty_figures(self):
        self.check(2 ** 50 * 3 ** 31, 2 ** 40 * 5 ** 25, 2 ** 50 * 3 ** 31 * 5 ** 25)
        self.check(THIRTY_C, THIRTY_C + 6, lcm(THIRTY_C, THIRTY_C + 6))

    def test_some_hundred_figures(self):
        self.check(7 ** 300 * 2 ** 500, 7 ** 200 * 5 ** 300, 7 ** 300 * 2 ** 500 * 5 ** 300)
        one, other = neighbours(300)
        self.check(one, other, one * other)
        self.check(one * THIRTY_C, other * THIRTY_C, one * other * THIRTY_C)

    def test_more_figures_than_python_writes(self):
        self.check(10 ** 6000, 6 ** 6000, 30 ** 6000)


class RatioCase(unittest.TestCase):
    def check_ratio(self, told, top, bottom):
        self.assertIs(type(told), tuple)
        self.assertEqual(len(told), 2)
        self.assertIs(type(told[0]), int)
        self.assertIs(type(told[1]), int)
        self.assertGreaterEqual(min(told), 1)
        self.assertEqual(gcd(told[0], told[1]), 1)
        self.assertEqual(told, (top, bottom))


class TestRatio(RatioCase):
    def test_ordinary_numbers(self):
        self.check_ratio(ratio(6, 4), 3, 2)
        self.check_ratio(ratio(4, 6), 2, 3)
        self.check_ratio(ratio(3, 2), 3, 2)
        self.check_ratio(ratio(1, 1), 1, 1)
        self.check_ratio(ratio(1, 12), 1, 12)
        self.check_ratio(ratio(12, 1), 12, 1)
        self.check_ratio(ratio(9, 9), 1, 1)
        self.check_ratio(ratio(60, 12), 5, 1)

    def test_all_small_ones(self):
        for top in range(1, 41):
            for bottom in range(1, 41):
                expected = Fraction(top, bottom)
                with self.subTest(top=top, bottom=bottom):
                    self.check_ratio(ratio(top, bottom), expected.numerator, expected.denominator)

    def test_handed_in_many_times_over(self):
        for often in (1, 2, 60, 9973, THIRTY_C, 7 ** 400, 10 ** 6000):
            with self.subTest(bits=often.bit_length()):
                self.check_ratio(ratio(3 * often, 2 * often), 3, 2)
                self.check_ratio(ratio(often, often), 1, 1)
                self.check_ratio(ratio(THIRTY_A * often, THIRTY_B * often), THIRTY_A, THIRTY_B)

    def test_thirty_figures(self):
        self.check_ratio(ratio(THIRTY_A, THIRTY_B), THIRTY_A, THIRTY_B)
        self.check_ratio(ratio(2 ** 50 * 3 ** 31, 2 ** 40 * 5 ** 25), 2 ** 10 * 3 ** 31, 5 ** 25)

    def test_some_hundred_figures(self):
        one, other = neighbours(300)
        self.check_ratio(ratio(one, other), one, other)
        self.check_ratio(ratio(one * 12, other * 12), one, other)


class TestTimes(RatioCase):
    def test_ordinary_ratios(self):
        self.check_ratio(times((3, 2), (5, 7)), 15, 14)
        self.check_ratio(times((3, 2), (2, 9)), 1, 3)
        self.check_ratio(times((4, 9), (3, 2)), 2, 3)
        self.check_ratio(times((1, 1), (5, 7)), 5, 7)
        self.check_ratio(times((5, 7), (1, 1)), 5, 7)
        self.check_ratio(times((6, 1), (1, 6)), 1, 1)

    def test_all_small_ones(self):
        small = [ratio(top, bottom) for top in range(1, 9) for bottom in range(1, 9)]
        for one in small:
            for other in small:
                expected = Fraction(*one) * Fraction(*other)
                with self.subTest(one=one, other=other):
                    self.check_ratio(times(one, other), expected.numerator, expected.denominator)

    def test_long_ones(self):
        self.check_ratio(times((THIRTY_A, THIRTY_B), (THIRTY_B, 5)), THIRTY_A, 5)
        one, other = neighbours(300)
        self.check_ratio(times((one, other), (other, 2 ** 1000)), *ratio(one, 2 ** 1000))
        self.check_ratio(times((10 ** 6000, 3 ** 6000), (3 ** 6000, 2 ** 6000)), 5 ** 6000, 1)


class TestTurned(RatioCase):
    def test_ordinary_ratios(self):
        self.check_ratio(turned((3, 2)), 2, 3)
        self.check_ratio(turned((1, 6)), 6, 1)
        self.check_ratio(turned((1, 1)), 1, 1)

    def test_twice_turned_is_as_before(self):
        self.check_ratio(turned(turned((3, 7))), 3, 7)

    def test_a_ratio_times_itself_turned(self):
        for one in ((1, 1), (3, 2), (1, 12), (THIRTY_A, THIRTY_B), neighbours(300), (10 ** 6000, 3 ** 6000)):
            with self.subTest(bits=one[0].bit_length()):
                self.check_ratio(turned(one), one[1], one[0])
                self.check_ratio(times(one, turned(one)), 1, 1)
                self.check_ratio(times(turned(one), one), 1, 1)


class TestWhole(unittest.TestCase):
    OTHER_THINGS = (None, True, False, "", "0", "1", 1.0, b"1", [], [1], (), (1,), {}, {1: 1}, object(), int)

    def test_ints_are_whole_numbers(self):
        for number in (0, 1, -1, THIRTY_A, -THIRTY_A, 10 ** 6000):
            self.assertIs(is_whole(number), True)

    def test_truths_and_other_things_are_none(self):
        for thing in self.OTHER_THINGS:
            with self.subTest(thing=repr(thing)):
                self.assertIs(is_whole(thing), False)
                self.assertIs(is_from(thing, 0), False)
                self.assertIs(is_from(thing, 1), False)
                self.assertIs(is_number_below(thing, 5), False)

    def test_from_a_number_on(self):
        for least in (0, 1, THIRTY_A):
            self.assertIs(is_from(least, least), True)
            self.assertIs(is_from(least + 1, least), True)
            self.assertIs(is_from(least - 1, least), False)
            self.assertIs(is_from(-10 ** 6000, least), False)

    def test_below_a_number(self):
        told = [is_number_below(number, 3) for number in (-10 ** 6000, -3, -1, 0, 1, 2, 3, 4, 10 ** 6000)]
        self.assertEqual(told, [False, False, False, True, True, True, False, False, False])
        self.assertIs(is_number_below(0, 0), False)


class TestHandedIn(unittest.TestCase):
    def test_ratios_are_what_they_were(self):
        one, other = (3, 2), (2, 9)
        times(one, other)
        turned(one)
        times(one, one)
        self.assertEqual((one, other), ((3, 2), (2, 9)))

    def test_asked_again_the_same_is_told(self):
        for ask in (lambda: divisor(12, 18), lambda: multiple(4, 6), lambda: ratio(6, 4),
                    lambda: times((3, 2), (2, 9)), lambda: turned((3, 2))):
            self.assertEqual(ask(), ask())


if __name__ == "__main__":
    unittest.main()
