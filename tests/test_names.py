import copy
import string
import unittest

from ratehall.names import is_name

# Signs that aren't letters from a to z; among them those next to a and z, and letters of other scripts.
OTHER_SIGNS = (
    string.ascii_uppercase + string.digits + string.punctuation + " \t\n\r\v\f\0"
    + "\u00e4\u00df\u00aa\u0131\u0430\u03b1\uff41\u00b2\u0660\u2028\u00a0\U0001d41a"
)


class TestNames(unittest.TestCase):
    def test_each_letter(self):
        for letter in string.ascii_lowercase:
            with self.subTest(letter=letter):
                self.assertIs(is_name(letter), True)

    def test_one_to_eight_letters(self):
        for length in range(1, 9):
            for text in ("a" * length, "z" * length, "azbycxdw"[:length]):
                with self.subTest(text=text):
                    self.assertIs(is_name(text), True)

    def test_too_short_or_too_long(self):
        for text in ("", "abcdefghi", "a" * 9, "z" * 9, "a" * 10, "a" * 3000):
            with self.subTest(length=len(text)):
                self.assertIs(is_name(text), False)

    def test_another_sign_at_any_place(self):
        for sign in OTHER_SIGNS:
            for length in range(8):
                for place in range(length + 1):
                    text = "a" * place + sign + "z" * (length - place)
                    with self.subTest(text=text):
                        self.assertIs(is_name(text), False)

    def test_a_line_end_or_tab_behind_eight_letters(self):
        for sign in ("\n", "\t", " ", "\r\n"):
            with self.subTest(sign=sign):
                self.assertIs(is_name("abcdefgh" + sign), False)
                self.assertIs(is_name(sign + "abcdefgh"), False)

    def test_things_of_another_kind(self):
        things = (
            None, 0, 1, -1, 10 ** 30, True, False, 1.5, b"abc", object(), str, is_name,
            [], ["a"], ["a", "b"], (), ("a",), ("a", "b"), {}, {"a": 1}, {"a"}, frozenset("a"), range(3),
        )
        for thing in things:
            with self.subTest(thing=repr(thing)):
                self.assertIs(is_name(thing), False)

    def test_what_is_handed_in_is_what_it_was(self):
        things = (["a", ["b"]], ("a", ["b"]), {"a": ["b"]}, [], {}, ())
        for thing in things:
            before = copy.deepcopy(thing)
            with self.subTest(thing=repr(thing)):
                is_name(thing)
                self.assertEqual(thing, before)

    def test_asked_again_the_same_is_told(self):
        for thing in ("press", "Press", "", None, ["a"]):
            with self.subTest(thing=thing):
                self.assertIs(is_name(thing), is_name(thing))


if __name__ == "__main__":
    unittest.main()
