import unittest

from ratehall import errors
from ratehall.errors import RateError

REFUSALS = (
    "NoName", "Twice", "TooMuch", "NoWork", "NoBelt", "NoRate", "Empty", "NotBalanced",
    "TooLong", "NoRoom", "Stuck", "NoForm", "NoPieces", "NoFit", "NoText", "NoLine",
)


def refusals():
    return [getattr(errors, name) for name in REFUSALS]


class TestErrors(unittest.TestCase):
    def test_there_are_sixteen(self):
        self.assertEqual(len(set(refusals())), 16)

    def test_each_bears_its_name(self):
        for name in REFUSALS + ("RateError",):
            with self.subTest(name=name):
                self.assertEqual(getattr(errors, name).__name__, name)

    def test_rate_error_stands_under_value_error(self):
        self.assertTrue(issubclass(RateError, ValueError))

    def test_each_stands_under_rate_error(self):
        for refusal in refusals():
            with self.subTest(refusal=refusal.__name__):
                self.assertTrue(issubclass(refusal, RateError))
                self.assertFalse(issubclass(RateError, refusal))

    def test_none_stands_under_another_one(self):
        for one in refusals():
            for other in refusals():
                with self.subTest(one=one.__name__, other=other.__name__):
                    self.assertEqual(issubclass(one, other), one is other)

    def test_each_is_taken_as_itself_and_as_those_above(self):
        for refusal in refusals():
            for taken_as in (refusal, RateError, ValueError):
                with self.subTest(refusal=refusal.__name__, taken_as=taken_as.__name__):
                    with self.assertRaises(taken_as) as without_words:
                        raise refusal
                    with self.assertRaises(taken_as) as with_words:
                        raise refusal("some words")
                    self.assertIs(type(without_words.exception), refusal)
                    self.assertIs(type(with_words.exception), refusal)
                    self.assertEqual(str(with_words.exception), "some words")

    def test_rate_error_itself_is_raised_and_taken(self):
        for taken_as in (RateError, ValueError):
            with self.subTest(taken_as=taken_as.__name__):
                with self.assertRaises(taken_as):
                    raise RateError
                with self.assertRaises(taken_as) as with_words:
                    raise RateError("some words")
                self.assertEqual(str(with_words.exception), "some words")

    def test_none_is_taken_as_another_one(self):
        for one in refusals():
            for other in refusals():
                if one is other:
                    continue
                with self.subTest(one=one.__name__, other=other.__name__):
                    with self.assertRaises(one):
                        try:
                            raise one("some words")
                        except other:
                            pass


if __name__ == "__main__":
    unittest.main()
