import unittest
from string import ascii_lowercase

from ratehall.desk import Desk
from ratehall.errors import (
    NoBelt, NoForm, NoLine, NoName, NoPieces, NoRate, NoRoom, NotBalanced, NoText, RateError, Stuck, TooLong, TooMuch,
    Twice,
)
from ratehall.hall import MOST_BELTS, MOST_WORKS
from ratehall.mill import Mill
from ratehall.notes import read_forms, read_hall

FIGURES = "9" * 30
# What is no number from 0 on, and has no blank in it.
NO_NUMBERS = ("00", "01", "-0", "-1", "-", "+1", "1.0", "1e1", "1_0", "a", "\t1", "1\t", "1\n", "\n1", "\n", "1,", "@",
              "9" * 31)
NO_NAMES = ("A", "a1", "abcdefghi", "1", "-", "/", "a\n", "\na", "a\t", "a,", "aB", "\n")
TWO = ("work a", "work b", "belt a 2 3 b 1")
THREE = TWO + ("work c", "belt b 1 2 c 0", "belt c 2 1 b 2")
UNBALANCED = ("work a", "work b", "belt a 1 1 b 0", "belt a 1 2 b 0")
LONG_ROUND = ("work a", "work b", "belt a 1 400 b 0")
STUCK = ("work a", "work b", "belt a 1 1 b 0", "belt b 1 1 a 0")
# Lean rooms 1, 997 and 991: no code comes back to the same boxes on both belts ahead of 997 * 991 rounds.
LONG_CODE = ("work a", "work b", "belt a 1 1 b 0", "belt b 1 1 a 997", "belt b 1 1 a 991")


def desk_of(rows):
    desk = Desk()
    for row in rows:
        desk.say(row)
    return desk


def said(desk, row):
    """The answer, or the class of the refusal."""
    try:
        return desk.say(row)
    except RateError as refusal:
        return type(refusal)


def name_of(number):
    return ascii_lowercase[number // 26] + ascii_lowercase[number % 26]


PROBES = ("rates", "round", "rooms", "rooms 4", "rooms 4 2 2", "lean", "join a", "join b", "join a b", "run 0",
          "run 1 / 7", "run 2 / 7 / / -5 6", "run 1 / 5 6 / 7 /", "run 1 / /")


class DeskCase(unittest.TestCase):
    def check(self, desk, answers):
        for row, answer in answers:
            with self.subTest(row=row):
                told = desk.say(row)
                self.assertEqual(told, answer)
                self.assertIs(type(told), str)

    def check_refused(self, desk, refusal, row):
        with self.subTest(row=row):
            before = [said(desk, probe) for probe in PROBES]
            with self.assertRaises(refusal) as refused:
                desk.say(row)
            self.assertIs(type(refused.exception), refusal)
            self.assertEqual([said(desk, probe) for probe in PROBES], before)


class TestWithoutWorks(DeskCase):
    def test_every_row(self):
        self.check(Desk(), (("rates", "none"), ("round", "turns"), ("rooms", "turns"), ("lean", "none"),
                            ("least", "none"), ("run 0", "ok"), ("run 20", "ok")))
        for row, refusal in (("rooms 0", NoRoom), ("rooms 1 2", NoRoom), ("join a", NoName), ("join a a", NoName),
                             ("run 1 /", NoPieces), ("run 1 / 5", NoPieces), ("fill 0 0", NoBelt),
                             ("forms a -", NoName), ("belt a 1 1 a 0", NoName), ("belt a 0 0 a 0", NoName),
                             ("forms a x", NoText)):
            self.check_refused(Desk(), refusal, row)

    def test_works_without_belts(self):
        self.check(desk_of(["work b", "work a"]), (
            ("rates", "b 1, a 1"), ("round", "turns b a"), ("rooms", "turns b a"), ("lean", "none"), ("least", "none"),
            ("run 3", "ok"), ("join a", "work b / work a"), ("join a b", "work b"), ("join b a", "work b"),
            ("forms a -", "ok"), ("run 20", "ok")))


class TestNoLine(DeskCase):
    def test_another_first_word(self):
        desk = desk_of(TWO)
        for row in ("", " ", "\n", "\t", "Work c", "works c", "wor c", "names", "belts", "hall", "turn a", "go a",
                    "Rates", "rates\n", "\nrates", "\trates", "rates\t", "round\n", "lean\n", "least\n", "rooms\n",
                    "none", "ok", "0", "/", "-", "forms\ta 1", "work\tc", "run\t1", "peaks", "low", "code", "mill",
                    "show", "read", "rate", "roundrates", "forms\n", "quit"):
            self.check_refused(desk, NoLine, row)

    def test_too_few_or_too_many_words(self):
        desk = desk_of(TWO)
        for row in ("work", "work c d", "work c 1", "belt", "belt a", "belt a 1 1 b", "belt a 1 1 b 0 0", "belt a b",
                    "fill", "fill 0", "fill 0 1 2", "forms", "forms a", "rates a", "rates 1", "round a", "round 1",
                    "lean 1", "lean a", "least 1", "least a", "join", "run", "work work work"):
            self.check_refused(desk, NoLine, row)

    def test_an_empty_word(self):
        desk = desk_of(TWO)
        for row in ("work ", "work  c", " work c", "work c ", "work  ", " rates", "rates ", "  rates", "round ",
                    " round", "lean ", "least ", " least", "rooms ", "rooms 4 ", "rooms  4", " rooms 4", "join ",
                    "join a ", "join  a", "join a  b", "run ", "run 1 ", "run  1 / 7", "run 1  / 7", "run 1 /  7",
                    "run 1 / 7 ", " run 1 / 7", "fill  0 1", "fill 0  1", "fill 0 1 ", "fill 0 ", "belt a 1 1 b ",
                    "belt a 1 1 b  0", "belt  a 1 1 b 0", "belt a 1 1  b 0", "belt a 1 1 b 0 ", "forms ", "forms  ",
                    "forms a ", "forms a  ", "forms  a 1, 2", "forms a  1, 2", "forms   1, 2", " forms a 1, 2",
                    "forms a  ", "forms  1, 2"):
            self.check_refused(desk, NoLine, row)

    def test_words_that_are_no_numbers(self):
        desk = desk_of(TWO)
        for word in NO_NUMBERS:
            for row in ("belt a {} 1 b 0", "belt a 1 {} b 0", "belt a 1 1 b {}", "fill {} 1", "fill 0 {}", "rooms {}",
                        "rooms 4 {}", "rooms {} 4", "run {} / 7", "run {}"):
                self.check_refused(desk, NoLine, row.replace("{}", word))
            # A number below 0 is a piece.
            if word != "-1":
                for row in ("run 1 / {}", "run 1 / 7 {}", "run 1 / {} 7", "run 1 / 7 / {}"):
                    self.check_refused(desk, NoLine, row.replace("{}", word))
        for word in ("-01", "--1", "-a", "-" + "9" * 31, "-1\n"):
            self.check_refused(desk, NoLine, "run 1 / " + word)

    def test_laps_above_20(self):
        desk = desk_of(TWO)
        for laps in ("21", "22", "100", FIGURES):
            self.check_refused(desk, NoLine, f"run {laps} / 7")
            self.check_refused(desk, NoLine, f"run {laps}")

    def test_words_between_laps_and_the_first_stroke(self):
        desk = desk_of(TWO)
        for row in ("run 1 7", "run 1 7 / 7", "run 1 -7 / 7", "run 1 a / 7", "run 1 // 7", "run 1 2 3", "run / 7",
                    "run / 1 / 7", "run 1 /7", "run 1 / 7 //", "run 1/ 7", "run 1 / /7", "run 1 \n / 7"):
            self.check_refused(desk, NoLine, row)

    def test_ahead_of_all_else(self):
        for rows in ((), TWO, UNBALANCED, LONG_ROUND, STUCK, LONG_CODE):
            desk = desk_of(rows)
            for row in ("belt x 0 y b 0", "belt x 01 1 y 0", "belt X 1 1 a -1", "fill 99 -1", "fill 99 x",
                        "rooms 1 2 3 4 x", "rooms -1", "run 21", "run 21 / 1 2 3 4", "run 1 x / 1", "run 1 / x",
                        "join x ", "join  x", "forms x ", "forms X  ", "work A B", "lean lean", "round round"):
                self.check_refused(desk, NoLine, row)


class TestWork(DeskCase):
    def test_numbers(self):
        self.check(Desk(), (("work saw", "0"), ("work a", "1"), ("work abcdefgh", "2"),
                            ("rates", "saw 1, a 1, abcdefgh 1")))

    def test_called_like_the_rows(self):
        self.check(Desk(), (("work work", "0"), ("work belt", "1"), ("work rates", "2"), ("belt work 1 2 rates 0", "0"),
                            ("rates", "work 2, belt 1, rates 1"), ("forms rates -", "ok"), ("forms work 3", "ok"),
                            ("run 1 /", "ok /"), ("join rates work", "work work / work belt")))

    def test_refused(self):
        desk = desk_of(TWO)
        for name in NO_NAMES:
            self.check_refused(desk, NoName, "work " + name)
        self.check_refused(desk, Twice, "work a")
        self.check_refused(desk, Twice, "work b")

    def test_too_much(self):
        desk = Desk()
        for number in range(MOST_WORKS):
            self.assertEqual(desk.say("work " + name_of(number)), str(number))
        self.check_refused(desk, TooMuch, "work a")
        self.check_refused(desk, Twice, "work aa")
        self.check_refused(desk, NoName, "work A")
        self.assertEqual(desk.say("rates"), ", ".join(name_of(number) + " 1" for number in range(MOST_WORKS)))


class TestBelt(DeskCase):
    def test_numbers(self):
        desk = Desk()
        self.check(desk, (("work a", "0"), ("work b", "1"), ("belt b 1 2 a 3", "0"), ("belt a 4 2 b 0", "1"),
                          ("belt a 5 5 a 6", "2"), ("rates", "a 1, b 2"),
                          ("join a", "work a / work b / belt b 1 2 a 3 / belt a 4 2 b 0")))

    def test_a_belt_that_was_put_twice(self):
        self.check(desk_of(TWO), (("belt a 2 3 b 1", "1"), ("belt a 2 3 b 1", "2"), ("rates", "a 3, b 2")))

    def test_no_name(self):
        desk = desk_of(TWO)
        for name in NO_NAMES + ("c", "aa", "ba"):
            self.check_refused(desk, NoName, f"belt {name} 1 1 b 0")
            self.check_refused(desk, NoName, f"belt a 1 1 {name} 0")
            self.check_refused(desk, NoName, f"belt {name} 0 0 b 0")
            self.check_refused(desk, NoName, f"belt a 0 0 {name} 0")

    def test_no_rate(self):
        desk = desk_of(TWO)
        for row in ("belt a 0 1 b 0", "belt a 1 0 b 0", "belt a 0 0 a 5"):
            self.check_refused(desk, NoRate, row)

    def test_too_much(self):
        desk = desk_of(("work a", "work b"))
        for number in range(MOST_BELTS):
            self.assertEqual(desk.say("belt a 1 1 b 1"), str(number))
        for refusal, row in ((TooMuch, "belt a 1 1 b 1"), (NoRate, "belt a 0 1 b 0"), (NoName, "belt x 0 1 b 0"),
                             (NoLine, "belt x 0 1 b -1")):
            self.check_refused(desk, refusal, row)
        self.assertEqual(desk.say("lean"), " ".join(["1"] * MOST_BELTS))

    def test_thirty_figures(self):
        desk = desk_of(("work a", "work b", f"belt a {FIGURES} {FIGURES} b {FIGURES}"))
        self.assertEqual(desk.say("rates"), "a 1, b 1")
        self.assertEqual(desk.say("join a"), f"work a / work b / belt a {FIGURES} {FIGURES} b {FIGURES}")
        self.assertEqual(desk.say("round"), "turns a b")


class TestFill(DeskCase):
    def test_other_and_same(self):
        desk = desk_of(TWO)
        self.check(desk, (("fill 0 1", "same"), ("fill 0 4", "other"), ("fill 0 4", "same"),
                          ("join a", "work a / work b / belt a 2 3 b 4"), ("fill 0 0", "other"), ("fill 0 0", "same"),
                          ("join a", "work a / work b / belt a 2 3 b 0"), (f"fill 0 {FIGURES}", "other")))

    def test_it_counts_for_rounds(self):
        desk = desk_of(STUCK)
        self.check(desk, (("fill 1 1", "other"), ("round", "turns a b"), ("fill 1 0", "other"), ("fill 0 1", "other"),
                          ("round", "turns b a")))

    def test_refused(self):
        desk = desk_of(THREE)
        for row in ("fill 3 0", "fill 4 1", f"fill {FIGURES} 0", f"fill 60 {FIGURES}"):
            self.check_refused(desk, NoBelt, row)
        self.check_refused(desk, NoLine, "fill -1 0")
        self.check_refused(desk, NoLine, "fill 3 -1")
        self.check_refused(desk, NoLine, "fill 0 -1")


class TestForms(DeskCase):
    def setUp(self):
        # The first work takes two pieces from a belt to itself, then one from the last belt: three slots.
        self.rows = ("work a", "belt a 2 2 a 2", "work b", "belt a 1 1 b 1", "belt b 1 1 a 0")
        self.desk = desk_of(self.rows)

    def test_at_first_all_are_nought(self):
        self.check(self.desk, (("run 0 / 5 6 / 7 /", "ok / 5 6 / 7 /"), ("run 1 / 5 6 / 7 /", "ok / 0 0 / 0 /"),
                               ("run 20 / 5 6 / 7 /", "ok / 0 0 / 0 /")))

    def test_told(self):
        # Lean rooms 4, 1 and 1: code of two laps.
        self.check(self.desk, (("lean", "4 1 1"), ("forms b 10 1@0", "ok"), ("run 1 / 5 6 / 7 /", "ok / 0 0 / 0 /"),
                               ("forms a 0 1@1, 0 1@0, 1 1@2", "ok"), ("run 1 / 5 6 / 7 /", "ok / 5 6 / 29 /"),
                               ("run 2 / 5 6 / 7 /", "ok / 5 6 / 51 /"),
                               ("forms a 0 1@0, 0 1@1 0@0, -1 1@2 1@2 -1@2", "ok"),
                               ("run 1 / 5 6 / -7 /", "ok / 5 6 / 11 /"), ("forms a 1, 2, 3", "ok"),
                               ("run 1 / 5 6 / 7 /", "ok / 1 2 / 3 /")))

    def test_told_anew(self):
        self.check(self.desk, (("forms a 1, 2, 3", "ok"), ("forms a 4, 5, 6", "ok"),
                               ("run 1 / 5 6 / 7 /", "ok / 4 5 / 6 /"), ("forms a 0, 0, 0", "ok"),
                               ("run 1 / 5 6 / 7 /", "ok / 0 0 / 0 /")))

    def test_filling_leaves_them(self):
        self.check(self.desk, (("forms a 1, 2, 3", "ok"), ("fill 0 3", "other"), ("fill 0 2", "other"),
                               ("run 1 / 5 6 / 7 /", "ok / 1 2 / 3 /")))

    def test_nought_again_from_each_belt_on(self):
        for belt, ends in (("belt a 1 1 b 1", "ab"), ("belt b 1 1 a 1", "ab"), ("belt a 1 1 a 1", "a"),
                           ("belt b 1 1 b 1", "b"), ("belt c 1 1 a 1", "a"), ("belt a 1 1 c 1", "a"),
                           ("belt b 1 1 c 1", "b"), ("belt c 1 1 b 1", "b"), ("belt c 1 1 c 1", "")):
            desk = desk_of(self.rows + ("work c", "forms a 1, 2, 3 1@2", "forms b 4", belt))
            many = {"a": 3, "b": 1, "c": 0}
            many[belt.split()[1]] += 1
            forms = {"a": "1, 2, 3 1@2", "b": "4", "c": ", ".join(["0"] * many["c"]) or "-"}
            for name in ends:
                forms[name] = ", ".join(["0"] * many[name])
            # A round is each work once.
            row = ["abc".index(name) for name in desk.say("round").split()[1:]]
            self.assertEqual(sorted(row), [0, 1, 2])
            rooms = [int(room) for room in desk.say("lean").split()]
            laps = 1
            while [room for room, give in zip(rooms, (2, 1, 1, 1)) if laps * give % room != 0]:
                laps += 1
            mill = Mill(read_hall(self.rows + ("work c", belt)), [read_forms(forms[name]) for name in "abc"],
                        [[5, 6], [7], [], [8]])
            mill.go(row * laps)
            told = "ok" + "".join(" /" + "".join(f" {piece}" for piece in lying) for lying in mill.lying())
            with self.subTest(belt=belt):
                self.assertEqual(desk.say("run 1 / 5 6 / 7 / / 8"), told)

    def test_a_refused_belt_leaves_them(self):
        self.desk.say("forms a 1, 2, 3")
        self.desk.say("forms b 4 1@0")
        for refusal, row in ((NoRate, "belt a 0 1 b 0"), (NoName, "belt a 1 1 x 0"), (NoLine, "belt a 1 1 b")):
            self.check_refused(self.desk, refusal, row)
            self.assertEqual(self.desk.say("run 1 / 5 6 / 7 /"), "ok / 1 2 / 3 /")

    def test_refused_forms_leave_them(self):
        self.desk.say("forms a 1, 2, 3")
        for refusal, row in ((NoForm, "forms a 7, 8"), (NoForm, "forms a 7, 8, 9 1@3"), (NoText, "forms a 7, 8,9"),
                             (NoName, "forms x 7, 8, 9"), (NoLine, "forms a  7, 8, 9")):
            self.check_refused(self.desk, refusal, row)
            self.assertEqual(self.desk.say("run 1 / 5 6 / 7 /"), "ok / 1 2 / 3 /")

    def test_no_text(self):
        for text in ("x", "1,", "1, 2, 3 ", "1,  2, 3", "1, 2 , 3", "1,2,3", "1  1@0, 2, 3", "- ", "--", "1, -", "-0",
                     "01", "1@0", "1 1@-1", "1\n", "\n", "\t", "\t1", "1, 2, 3\n", "1\n, 2, 3", "9" * 31,
                     "1 1@" + "9" * 31, "1 / 2", "-1, 2, 3 -0@0", ",", "ok"):
            self.check_refused(self.desk, NoText, "forms a " + text)
            self.check_refused(self.desk, NoText, "forms x " + text)
            self.check_refused(self.desk, NoText, "forms X " + text)

    def test_no_name(self):
        for name in ("c", "aa") + NO_NAMES:
            for text in ("-", "1", "1, 2, 3", "1 1@0", "0 1@9"):
                self.check_refused(self.desk, NoName, f"forms {name} {text}")

    def test_no_form(self):
        for text in ("-", "1", "1, 2", "1, 2, 3, 4", "1 1@4, 2, 3", "1, 2, 3 1@3 1@4", "1, 2, 3 0@4",
                     f"1, 2, 3 1@{FIGURES}"):
            self.check_refused(self.desk, NoForm, "forms a " + text)
        for text in ("-", "1, 2", "1 1@1", "1 1@0 1@1"):
            self.check_refused(self.desk, NoForm, "forms b " + text)
        self.check_refused(desk_of(["work a"]), NoForm, "forms a 0")
        self.check_refused(desk_of(TWO), NoForm, "forms b 0")
        self.check_refused(desk_of(TWO), NoForm, "forms a 0 1@0, 0")
        self.check(self.desk, (("forms a -1 1@0 1@2, 2, 3 1@2", "ok"), ("forms b 1 1@0 -1@0", "ok")))

    def test_no_forms(self):
        self.check(desk_of(TWO), (("forms b -", "ok"),))
        self.check(desk_of(["work a"]), (("forms a -", "ok"),))

    def test_numbers_of_thirty_figures(self):
        desk = desk_of(("work a", "belt a 1 1 a 1"))
        self.assertEqual(desk.say("lean"), "2")
        desk.say(f"forms a -{FIGURES} {FIGURES}@0")
        value = int(FIGURES)
        for turn in range(2):
            value = value * int(FIGURES) - int(FIGURES)
        self.assertEqual(desk.say(f"run 1 / {FIGURES}"), f"ok / {value}")

    def test_as_many_pieces_as_thirty_figures_tell(self):
        desk = desk_of(("work a", "work b", f"belt a {FIGURES} {FIGURES} b 0"))
        self.check(desk, (("rates", "a 1, b 1"), ("round", "turns a b"), (f"rooms {FIGURES}", "turns a b"),
                          ("forms b -", "ok")))
        self.check_refused(desk, NoForm, "forms a 0")
        self.check_refused(desk, NoForm, "forms a -")
        self.check_refused(desk, TooLong, "run 1 /")
        self.check(desk, (("work c", "2"), ("belt b 2 1 c 0", "1"), ("forms b 1, 2", "ok"), ("rates", "a 1, b 1, c 2")))


class TestRates(DeskCase):
    def test_names(self):
        self.check(desk_of(TWO), (("rates", "a 3, b 2"), ("work x", "2"), ("rates", "a 3, b 2, x 1")))
        self.check(desk_of(["work a"]), (("rates", "a 1"),))
        self.check(desk_of(["work a", "work b", "belt b 1 7 a 0"]), (("rates", "a 1, b 7"),))

    def test_a_ring(self):
        desk = desk_of(UNBALANCED)
        self.assertIn(desk.say("rates"), ("ring 0+ 1-", "ring 1- 0+", "ring 1+ 0-", "ring 0- 1+"))
        self.assertIn(desk_of(["work a", "belt a 1 2 a 5"]).say("rates"), ("ring 0+", "ring 0-"))

    def test_long_rates(self):
        names = [name_of(number) for number in range(MOST_WORKS)]
        desk = desk_of(["work " + name for name in names])
        for one, other in zip(names, names[1:]):
            desk.say(f"belt {one} {FIGURES} 1{'0' * 29} {other} 0")
        rates = [10 ** (29 * (29 - place)) * int(FIGURES) ** place for place in range(MOST_WORKS)]
        self.assertEqual(desk.say("rates"), ", ".join(f"{name} {rate}" for name, rate in zip(names, rates)))
        self.check_refused(desk, TooLong, "round")


class TestRound(DeskCase):
    def test_turns(self):
        self.check(desk_of(TWO), (("round", "turns a a a b b"),))
        self.check(desk_of(["work b", "work a", "belt a 1 2 b 0"]), (("round", "turns a a b"),))

    def test_a_stop(self):
        self.assertIn(desk_of(STUCK).say("round"), ("stop 0 0 / 0 1", "stop 0 0 / 1 0"))
        self.check(desk_of(["work x", "work y", "belt x 1 1 y 0", "belt y 1 1 y 0"]), (("round", "stop 1 0 / 1"),))

    def test_refused(self):
        self.check_refused(desk_of(UNBALANCED), NotBalanced, "round")
        self.check_refused(desk_of(LONG_ROUND), TooLong, "round")
        desk = desk_of(["work a", "work b", "belt a 1 399 b 0"])
        self.assertEqual(desk.say("round"), "turns" + " a" * 399 + " b")


class TestRooms(DeskCase):
    def test_turns_and_stops(self):
        self.check(desk_of(TWO), (("rooms 4", "turns a b a a b"), ("rooms 5", "turns a a b a b"),
                                  ("rooms 7", "turns a a a b b"), (f"rooms {FIGURES}", "turns a a a b b")))
        self.assertIn(desk_of(TWO).say("rooms 3"), ("stop 2 1 / 1 0", "stop 2 1 / 0 1"))
        self.assertIn(desk_of(TWO).say("rooms 1"), ("stop 0 0 / 1 0", "stop 0 0 / 0 1"))
        self.check(desk_of(["work a", "belt a 2 2 a 2"]), (("rooms 4", "turns a"), ("rooms 3", "stop 0 / 1"),
                                                           ("rooms 2", "stop 0 / 1")))

    def test_a_hall_without_a_round(self):
        self.assertIn(desk_of(STUCK).say("rooms 5 5"), ("stop 0 0 / 0 1", "stop 0 0 / 1 0"))

    def test_refused(self):
        for row in ("rooms", "rooms 4 4", "rooms 0", "rooms 4 0"):
            self.check_refused(desk_of(TWO), NoRoom, row)
        for row in ("rooms", "rooms 9 9", "rooms 9 9 9"):
            self.check_refused(desk_of(UNBALANCED), NotBalanced, row)
            self.check_refused(desk_of(LONG_ROUND), TooLong, row)
        self.check_refused(desk_of(THREE), NoRoom, "rooms 9 9 0")
        self.check_refused(desk_of(["work a"]), NoRoom, "rooms 0")


class TestLeanAndLeast(DeskCase):
    def test_rooms(self):
        self.check(desk_of(TWO), (("lean", "4"), ("least", "4")))
        self.check(desk_of(["work a", "belt a 2 2 a 2"]), (("lean", "4"), ("least", "4")))

    def test_lean_rooms_that_are_not_least(self):
        # Lean rooms begin with those of the told round, in which the first work turns first.
        rows = ("work a", "work b", "belt a 1 1 b 1", "belt b 1 1 a 1")
        self.check(desk_of(rows), (("round", "turns a b"), ("lean", "2 1"), ("rooms 2 1", "turns a b"),
                                   ("least", "1 2"), ("rooms 1 2", "turns b a")))

    def test_refused(self):
        for row in ("lean", "least"):
            self.check_refused(desk_of(UNBALANCED), NotBalanced, row)
            self.check_refused(desk_of(LONG_ROUND), TooLong, row)
            self.check_refused(desk_of(STUCK), Stuck, row)


class TestJoin(DeskCase):
    def test_rows(self):
        rows = "work a / work b / work c / belt a 2 3 b 1 / belt b 1 2 c 0 / belt c 2 1 b 2"
        self.check(desk_of(THREE), (("rates", "a 3, b 2, c 1"), ("join a", rows), ("join b", rows), ("join c", rows),
                                    ("join b c", "work a / work b / belt a 2 6 b 1")))

    def test_several(self):
        desk = desk_of(("work a", "work b", "work c", "belt a 2 3 b 1", "belt b 1 2 c 5", "belt b 1 1 b 1"))
        self.check(desk, (("join a b", "work a / work c / belt a 2 2 c 5"),
                          ("join b a", "work a / work c / belt a 2 2 c 5"),
                          ("join c b", "work a / work b / belt a 2 6 b 1"), ("join a b c", "work a"),
                          ("join c a b", "work a"), ("rates", "a 3, b 2, c 1"),
                          ("join c a", "work a / work b / belt a 6 3 b 1 / belt b 1 2 a 5 / belt b 1 1 b 1")))

    def test_refused(self):
        desk = desk_of(THREE)
        for row in ("join x", "join a x", "join x a", "join a a x", "join x x", "join A", "join 0", "join a,b",
                    "join a b,", "join a\n"):
            self.check_refused(desk, NoName, row)
        for row in ("join a a", "join a b a", "join b b b"):
            self.check_refused(desk, Twice, row)
        for rows, refusal in ((UNBALANCED, NotBalanced), (LONG_ROUND, TooLong), (STUCK, Stuck)):
            self.check_refused(desk_of(rows), refusal, "join a b")
            self.check_refused(desk_of(rows), Twice, "join b a a")
            self.check_refused(desk_of(rows), NoName, "join b b x")
        self.check_refused(desk_of(UNBALANCED), NotBalanced, "join a")
        self.check_refused(desk_of(LONG_ROUND), TooLong, "join b")
        # One work whose belt to itself never has enough.
        self.check_refused(desk_of(["work a", "belt a 1 1 a 0"]), Stuck, "join a")


class TestRun(DeskCase):
    def test_laps(self):
        desk = desk_of(("work a", "belt a 1 1 a 1", "forms a 1 1@0"))
        # The lean room is 2, so the code of one lap turns twice.
        self.assertEqual(desk.say("lean"), "2")
        for laps in (0, 1, 2, 3, 10, 19, 20):
            self.assertEqual(desk.say(f"run {laps} / 5"), f"ok / {5 + 2 * laps}")
        self.check_refused(desk, NoLine, "run 21 / 5")

    def test_below_0(self):
        desk = desk_of(("work a", "belt a 1 1 a 1", "forms a -1 -2@0"))
        self.check(desk, (("run 0 / -7", "ok / -7"), ("run 1 / -7", "ok / -27"), ("run 1 / 0", "ok / 1"),
                          ("run 2 / -7", "ok / -107")))

    def test_nothing_is_kept_from_one_run_to_the_next(self):
        desk = desk_of(("work a", "belt a 1 1 a 1", "forms a 1 1@0"))
        for turn in range(3):
            self.assertEqual(desk.say("run 1 / 5"), "ok / 7")

    def test_empty_lists(self):
        desk = desk_of(("work a", "work b", "belt a 1 1 b 0", "belt a 1 1 b 2", "belt a 1 1 b 0", "forms a 1, 2, 3"))
        self.assertEqual(desk.say("lean"), "1 3 1")
        self.check(desk, (("run 0 / / 8 9 /", "ok / / 8 9 /"), ("run 1 / / 8 9 /", "ok / / 2 2 /"),
                          ("fill 1 0", "other"), ("run 3 / / /", "ok / / /"), ("run 0 / / /", "ok / / /")))

    def test_the_order_of_pieces(self):
        # Takes the oldest of three and lays it behind, one more each time: lean room 4, four laps.
        desk = desk_of(("work a", "belt a 1 1 a 3", "forms a 100 1@0"))
        self.assertEqual(desk.say("lean"), "4")
        self.check(desk, (("run 0 / 1 2 3", "ok / 1 2 3"), ("run 1 / 1 2 3", "ok / 102 103 201"),
                          ("run 3 / 1 2 3", "ok / 401 402 403")))

    def test_thirty_figures(self):
        desk = desk_of(("work a", "belt a 1 1 a 1", "forms a 0 -1@0"))
        self.check(desk, ((f"run 1 / {FIGURES}", f"ok / {FIGURES}"), (f"run 20 / -{FIGURES}", f"ok / -{FIGURES}")))

    def test_no_pieces(self):
        desk = desk_of(THREE)
        for row in ("run 1", "run 0", "run 1 /", "run 1 / 1", "run 1 / 1 /", "run 1 / 1 / 2 / 3 4", "run 1 / / / 3 4",
                    "run 1 / 1 2 / / 3 4", "run 1 / 1 / /", "run 1 / 1 / / 3", "run 1 / 1 / / 3 4 5",
                    "run 1 / 1 / / 3 4 /", "run 1 / / / /", "run 0 / 1 / / 3 4 / 5", "run 20 / 1 / 2 / 3"):
            self.check_refused(desk, NoPieces, row)
        self.assertEqual(desk.say("run 0 / 1 / / 3 4"), "ok / 1 / / 3 4")

    def test_refused_as_lean_rooms_then_as_the_code_then_with_no_pieces(self):
        for rows, refusal in ((UNBALANCED, NotBalanced), (LONG_ROUND, TooLong), (STUCK, Stuck), (LONG_CODE, TooLong)):
            for row in ("run 0", "run 1 / /", "run 1 /", "run 20 / 1 2 / 3", "run 0 / / / /"):
                self.check_refused(desk_of(rows), refusal, row)

    def test_most_rows(self):
        # A give of 1 within a room of the start and one more: as many rows as the room.
        for start, answer in ((2999, "ok / " + " ".join(["0"] * 2999)), (3000, TooLong), (3001, TooLong)):
            desk = desk_of(("work a", f"belt a 1 1 a {start}"))
            row = "run 1 / " + " ".join(["7"] * start)
            with self.subTest(start=start):
                self.assertEqual(said(desk, row), answer)
                self.assertEqual(said(desk, "run 1 /"), NoPieces if start == 2999 else TooLong)

    def test_belts_of_a_thousand(self):
        desk = desk_of(("work a", "work b") + ("belt a 1000 1000 b 0",) * 3)
        self.check(desk, (("lean", "1000 1000 1000"), ("least", "1000 1000 1000"), ("run 20 / / /", "ok / / /"),
                          ("fill 1 1000", "other"), ("lean", "1000 2000 1000")))
        # Twice as much room on one belt makes two laps of it, and 6000 rows.
        self.check_refused(desk, TooLong, "run 1 / / " + "5 " * 1000 + "/")
        self.check(desk, (("fill 1 0", "other"), ("run 1 / / /", "ok / / /"), ("belt a 1 1 b 0", "3")))
        self.check_refused(desk, TooLong, "run 1 / / / /")
        desk = desk_of(("work a", "work b", "belt a 1000 1000 b 1000"))
        self.check(desk, (("lean", "1000"), ("run 1 / " + " ".join(["5"] * 1000), "ok /" + " 0" * 1000),
                          ("forms a " + ", ".join(["7"] * 1000), "ok"),
                          ("run 1 / " + " ".join(["5"] * 1000), "ok /" + " 7" * 1000)))

    def test_a_long_start(self):
        # No list of pieces is as long as this, and no code either.
        desk = desk_of(("work a", "work b", f"belt a 1 1 b {FIGURES}"))
        self.assertEqual(said(desk, "run 1 / 1"), TooLong)


class TestAnswers(DeskCase):
    def test_no_blank_at_the_ends(self):
        rows = ("rates", "round", "rooms", "rooms 4", "rooms 3", "rooms 9 9 9", "rooms 1 2 2", "lean", "least",
                "join a", "join a b", "join b c", "run 0", "run 1", "run 1 /", "run 1 / 7", "run 1 / 7 / / 8 9",
                "forms b -", "fill 0 2", "work x", "belt x 1 1 x 3", "rates")
        told = 0
        for before in ((), ("work a",), TWO, THREE, UNBALANCED, STUCK, LONG_ROUND,
                       ("work a", "work b", "belt a 1 1 b 0")):
            desk = desk_of(before)
            for row in rows:
                answer = said(desk, row)
                if isinstance(answer, str):
                    told += 1
                    self.assertEqual(answer, answer.strip())
                    self.assertNotEqual(answer, "")
                    self.assertNotIn("  ", answer)
        self.assertGreater(told, 60)

    def test_two_desks(self):
        one, other = desk_of(TWO), Desk()
        self.assertEqual(other.say("rates"), "none")
        other.say("work x")
        self.assertEqual(one.say("rates"), "a 3, b 2")
        one.say("forms a 1, 2")
        third = desk_of(TWO)
        self.assertEqual((one.say("run 1 / 7"), third.say("run 1 / 7")), ("ok / 2", "ok / 0"))

    def test_asking_changes_nothing(self):
        desk = desk_of(THREE)
        desk.say("forms a 1, 2")
        before = [said(desk, probe) for probe in PROBES]
        self.assertEqual([said(desk, probe) for probe in PROBES], before)
        self.assertEqual([said(desk, probe) for probe in reversed(PROBES)], before[::-1])


if __name__ == "__main__":
    unittest.main()
