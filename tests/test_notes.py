import copy
import random
import re
import unittest
from string import ascii_lowercase

from ratehall.errors import NoName, NoRate, NoText, TooMuch, Twice
from ratehall.hall import MOST_BELTS, MOST_WORKS, Hall
from ratehall.notes import read_form, read_forms, read_hall, show_form, show_forms, show_hall
from ratehall.rooms import backed

LONG = 10 ** 30 - 1
FIGURES = "9" * 30
# What is no number from 0 on, wherever one is due.
NO_NUMBERS = (
    "", "00", "01", "007", "-0", "-1", "-", "+1", "1.", "1.0", "1e3", "0x1", "1_0", "a", " ", "1 ", " 1", "\t1", "1\t",
    "1\n", "\n1", "1\r", "\n", "\t", "9" * 31, "1" + "0" * 30, "0" * 30, "1,", "/", "@", "--1", "1-",
)
# What is no number either where one may be below 0.
NO_SIGNED = tuple(text for text in NO_NUMBERS if text != "-1") + (
    "-01", "-00", "- 1", "-" + "9" * 31, "-+1", "-a", "-\n1", "-1\n")


def told(hall):
    return (hall.names(), hall.belts())


def name_of(number):
    return ascii_lowercase[number // 26] + ascii_lowercase[number % 26]


def chance_number(chance, below_0):
    number = chance.choice((0, 1, 2, 9, 10, 99, LONG, chance.randrange(10 ** chance.randrange(1, 31))))
    return number if not below_0 or chance.randrange(2) else -number


def chance_form(chance):
    terms = tuple((chance_number(chance, False), chance_number(chance, True)) for term in range(chance.randrange(4)))
    return (chance_number(chance, True), terms)


class NotesCase(unittest.TestCase):
    def check_refused(self, refusal, function, handed_in):
        with self.subTest(function=function.__name__, handed_in=handed_in):
            with self.assertRaises(refusal) as refused:
                function(handed_in)
            self.assertIs(type(refused.exception), refusal)


class TestShowHall(NotesCase):
    def test_no_works(self):
        self.assertEqual(show_hall(Hall()), [])

    def test_works_then_belts(self):
        hall = Hall()
        hall.work("saw")
        hall.work("a")
        hall.belt(0, 1, 2, 3, 4)
        hall.work("abcdefgh")
        hall.belt(2, 2, 10, 200, 0)
        hall.belt(1, 0, 1, 1)
        self.assertEqual(show_hall(hall), ["work saw", "work a", "work abcdefgh", "belt saw 2 3 a 4",
                                           "belt abcdefgh 10 200 abcdefgh 0", "belt a 1 1 saw 0"])

    def test_thirty_figures_and_more(self):
        hall = Hall()
        hall.work("a")
        hall.belt(0, 0, LONG, LONG - 1, LONG)
        hall.lay((0, 0, LONG * 400, 7, 10 ** 40))
        self.assertEqual(show_hall(hall)[1:], [f"belt a {FIGURES} {FIGURES[1:]}8 a {FIGURES}",
                                               f"belt a 399{'9' * 27}600 7 a 1{'0' * 40}"])

    def test_a_backed_hall(self):
        hall = read_hall(["work a", "work b"] + ["belt a 2 3 b 1"] * MOST_BELTS)
        rows = show_hall(backed(hall, [5] * MOST_BELTS))
        self.assertEqual(rows, ["work a", "work b"] + ["belt a 2 3 b 1"] * MOST_BELTS + ["belt b 3 2 a 4"] * MOST_BELTS)
        self.check_refused(TooMuch, read_hall, rows)

    def test_the_hall_stays_and_the_list_is_new(self):
        hall = read_hall(["work a", "belt a 1 1 a 2"])
        before = told(hall)
        rows = show_hall(hall)
        rows.append("work b")
        rows[0] = "work c"
        self.assertEqual(told(hall), before)
        self.assertEqual(show_hall(hall), ["work a", "belt a 1 1 a 2"])


class TestReadHall(NotesCase):
    def test_no_rows(self):
        self.assertEqual(told(read_hall([])), ([], []))

    def test_rows(self):
        hall = read_hall(["work saw", "work a", "belt saw 2 3 a 4", "belt a 1 20 a 0"])
        self.assertEqual(told(hall), (["saw", "a"], [(0, 1, 2, 3, 4), (1, 1, 1, 20, 0)]))
        self.assertIs(type(hall), Hall)

    def test_rows_in_any_order(self):
        hall = read_hall(["work b", "belt b 1 1 b 0", "work a", "belt a 2 3 b 4", "work c", "belt b 5 6 c 7"])
        self.assertEqual(told(hall), (["b", "a", "c"], [(0, 0, 1, 1, 0), (1, 0, 2, 3, 4), (0, 2, 5, 6, 7)]))
        self.assertEqual(show_hall(hall), ["work b", "work a", "work c",
                                           "belt b 1 1 b 0", "belt a 2 3 b 4", "belt b 5 6 c 7"])

    def test_works_called_like_the_words(self):
        hall = read_hall(["work work", "work belt", "belt belt 1 2 work 3", "belt work 1 2 belt 3"])
        self.assertEqual(told(hall), (["work", "belt"], [(1, 0, 1, 2, 3), (0, 1, 1, 2, 3)]))

    def test_thirty_figures(self):
        hall = read_hall(["work a", f"belt a {FIGURES} 1{'0' * 29} a {FIGURES}"])
        self.assertEqual(hall.belts(), [(0, 0, LONG, 10 ** 29, LONG)])

    def test_written_and_read_again(self):
        chance = random.Random(33)
        for turn in range(100):
            works, belts = chance.randrange(1, MOST_WORKS + 1), chance.choice((0, 1, 5, MOST_BELTS))
            hall = Hall()
            for work in range(works):
                hall.work(name_of(work))
            for belt in range(belts):
                hall.belt(chance.randrange(works), chance.randrange(works), max(1, chance_number(chance, False)),
                          max(1, chance_number(chance, False)), chance_number(chance, False))
            rows = show_hall(hall)
            self.assertEqual(told(read_hall(rows)), told(hall))
            self.assertEqual(show_hall(read_hall(rows)), rows)

    def test_rows_mixed(self):
        chance = random.Random(36)
        found = {True: 0, False: 0}
        for turn in range(400):
            works = chance.randrange(1, 5)
            rows = ["work " + name_of(work) for work in range(works)]
            rows += [f"belt {name_of(chance.randrange(works))} 1 2 {name_of(chance.randrange(works))} {number}"
                     for number in range(chance.randrange(4))]
            chance.shuffle(rows)
            names, belts, refused = [], [], False
            for row in rows:
                words = row.split()
                if words[0] == "work":
                    names.append(words[1])
                elif words[1] in names and words[4] in names:
                    belts.append((names.index(words[1]), names.index(words[4]), 1, 2, int(words[5])))
                else:
                    refused = True
            found[refused] += 1
            if refused:
                self.check_refused(NoName, read_hall, rows)
            else:
                self.assertEqual(told(read_hall(rows)), (names, belts))
        self.assertGreater(min(found.values()), 100)

    def test_rows_that_are_none(self):
        wrong = [
            "", " ", "work", "belt", "work ", " work a", "work a ", "work  a", "work a b", "Work a", "worka", "work\ta",
            "work a\n", "work a\r\n", "\nwork a", "work\na", "work\n a", "work A", "work a1", "work abcdefghi",
            "work 1", "work -", "fill 0 1", "a", "a work", "works a", "#", "work a,", "\t", "\n", "round", "forms a 1",
            "belt a 1 1 a", "belt a 1 1 a 0 0", "belt a 1 a 0", "belt 1 1 a a 0", "belt a a 1 1 0", "belt a 1 1 a  0",
            "belt  a 1 1 a 0", " belt a 1 1 a 0", "belt a 1 1 a 0 ", "belt a  1 1 a 0", "belt a 1 1 a 0\n",
            "belt a 1 1 a\t0", "belt\ta 1 1 a 0", "Belt a 1 1 a 0", "belts a 1 1 a 0", "belt A 1 1 a 0",
            "belt a 1 1 A 0", "belt a 1 1 abcdefghi 0", "belt abcdefghi 1 1 a 0", "belt a 1 1 a\n 0", "belt 0 1 1 0 0",
            "belt - 1 1 a 0",
        ]
        wrong += [f"belt a {text} 1 a 0" for text in NO_NUMBERS]
        wrong += [f"belt a 1 {text} a 0" for text in NO_NUMBERS]
        wrong += [f"belt a 1 1 a {text}" for text in NO_NUMBERS]
        for line in wrong:
            self.check_refused(NoText, read_hall, [line])
            self.check_refused(NoText, read_hall, ["work a", line])
            self.check_refused(NoText, read_hall, ["work a", "belt a 1 1 a 0", line, "work b"])

    def test_no_text_ahead_of_all_else(self):
        for row in ("belt x 1 1 a 0", "belt a 0 1 a 0", "belt a 1 0 a 0", "work a"):
            self.check_refused(NoText, read_hall, ["work a", row, ""])
            self.check_refused(NoText, read_hall, ["work a", row, "work A"])
            self.check_refused(NoText, read_hall, ["work a", row, "belt a 1 1 a 00"])
            self.check_refused(NoText, read_hall, ["work\n", row])
        self.check_refused(NoText, read_hall, ["work " + name_of(work) for work in range(31)] + ["work"])

    def test_no_name(self):
        for rows in (["belt a 1 1 a 0"], ["belt a 1 1 a 0", "work a"], ["work a", "belt a 1 1 b 0"],
                     ["work a", "belt b 1 1 a 0"], ["work a", "belt a 1 1 b 0", "work b"],
                     ["work a", "belt b 1 1 a 0", "work b"],
                     ["work a", "belt a 1 1 a 0", "belt a 1 1 aa 0"]):
            self.check_refused(NoName, read_hall, rows)

    def test_twice(self):
        self.check_refused(Twice, read_hall, ["work a", "work a"])
        self.check_refused(Twice, read_hall, ["work a", "work b", "belt a 1 1 b 0", "work a"])

    def test_no_rate(self):
        for row in ("belt a 0 1 a 0", "belt a 1 0 a 0", "belt a 0 0 a 0"):
            self.check_refused(NoRate, read_hall, ["work a", row])

    def test_too_much(self):
        works = ["work " + name_of(work) for work in range(MOST_WORKS + 1)]
        self.assertEqual(len(read_hall(works[:MOST_WORKS]).names()), MOST_WORKS)
        self.check_refused(TooMuch, read_hall, works)
        belts = ["work a"] + ["belt a 1 1 a 0"] * (MOST_BELTS + 1)
        self.assertEqual(len(read_hall(belts[:-1]).belts()), MOST_BELTS)
        self.check_refused(TooMuch, read_hall, belts)

    def test_of_one_row_the_first_refusal(self):
        works = ["work " + name_of(work) for work in range(MOST_WORKS)]
        self.check_refused(Twice, read_hall, works + ["work aa"])
        belts = ["work a"] + ["belt a 1 1 a 0"] * MOST_BELTS
        self.check_refused(NoName, read_hall, belts + ["belt a 0 1 b 0"])
        self.check_refused(NoRate, read_hall, belts + ["belt a 0 1 a 0"])
        self.check_refused(NoName, read_hall, ["work a", "belt b 0 0 a 0"])

    def test_row_by_row_the_first_refusal(self):
        rows = {NoName: "belt a 1 1 x 0", Twice: "work a", NoRate: "belt a 0 1 a 0"}
        for one in rows:
            for other in rows:
                self.check_refused(one, read_hall, ["work a", rows[one], rows[other]])
        works = ["work " + name_of(work) for work in range(MOST_WORKS)]
        self.check_refused(TooMuch, read_hall, works + ["work x", "work aa"])
        self.check_refused(Twice, read_hall, works + ["work aa", "work x"])
        self.check_refused(TooMuch, read_hall, works + ["work x", "belt x 0 0 x 0"])

    def test_the_lines_stay(self):
        lines = ["work a", "belt a 1 2 a 3"]
        hall = read_hall(lines)
        self.assertEqual(lines, ["work a", "belt a 1 2 a 3"])
        lines.append("work b")
        lines[0] = "work c"
        self.assertEqual(told(hall), (["a"], [(0, 0, 1, 2, 3)]))
        wrong = ["work a", "work a"]
        self.check_refused(Twice, read_hall, wrong)
        self.assertEqual(wrong, ["work a", "work a"])

    def test_halls_of_their_own(self):
        lines = ["work a"]
        one, other = read_hall(lines), read_hall(lines)
        one.work("b")
        self.assertEqual((one.names(), other.names()), (["a", "b"], ["a"]))


class TestForm(NotesCase):
    EXAMPLES = (
        ((0, ()), "0"), ((7, ()), "7"), ((-7, ()), "-7"), ((LONG, ()), FIGURES), ((-LONG, ()), "-" + FIGURES),
        ((3, ((0, 2), (1, -1))), "3 2@0 -1@1"), ((0, ((0, 0),)), "0 0@0"), ((10, ((25, 100),)), "10 100@25"),
        ((-1, ((2, 1), (2, 1), (0, -30))), "-1 1@2 1@2 -30@0"), ((0, ((LONG, -LONG),)), f"0 -{FIGURES}@{FIGURES}"),
    )

    def test_shown_and_read(self):
        for form, text in self.EXAMPLES:
            with self.subTest(text=text):
                self.assertEqual(show_form(form), text)
                self.assertEqual(read_form(text), form)

    def test_the_kinds(self):
        form = read_form("3 2@0 -1@1")
        self.assertEqual([type(part) for part in form], [int, tuple])
        self.assertEqual([type(term) for term in form[1]], [tuple, tuple])
        self.assertEqual([type(part) for part in form[1][0]], [int, int])
        self.assertIs(type(form), tuple)

    def test_shown_with_as_many_figures_as_there_are(self):
        self.assertEqual(show_form((10 ** 2999, ((1, -10 ** 40),))), f"1{'0' * 2999} -1{'0' * 40}@1")

    def test_three_hundred_terms(self):
        form = (1, tuple((slot, -slot) for slot in range(1, 301)))
        text = show_form(form)
        self.assertLess(len(text), 3000)
        self.assertEqual(text.count("@"), 300)
        self.assertEqual(read_form(text), form)

    def test_forms_of_any_kind(self):
        chance = random.Random(34)
        for turn in range(300):
            form = chance_form(chance)
            self.assertEqual(read_form(show_form(form)), form)
            forms = tuple(chance_form(chance) for each in range(chance.randrange(5)))
            self.assertEqual(read_forms(show_forms(forms)), forms)

    def test_no_form(self):
        wrong = [
            "", " ", "-", "3 ", " 3", "3  2@0", "3 2@0 ", "3\t2@0", "3\n", "3\n2@0", "3 2@0\n", "3 2@0\t", "\n", "\t",
            "a", "2@0", "3 2", "3 @0", "3 2@", "3 @", "3 2@0@1", "3 2@@0", "3 2 @0", "3 2@ 0", "3 2@0,", "3,", "3, 4",
            "3 2@0 4", "3 2@0, 4 5@1", "3 -", "3 --2@0", "3 -@0", "3 +2@0", "3 2@+0", "3 2*0", "3 2@a", "3 a@0",
            "3 2@0/", "/ 3", "3;", "3 2@0 -1@1 x", "none", "0 1@-1", "0 1@-0",
        ]
        wrong += NO_SIGNED
        wrong += [f"{text} 1@0" for text in NO_SIGNED]
        wrong += [f"0 {text}@0" for text in NO_SIGNED]
        wrong += [f"0 1@0 {text}@0 1@0" for text in NO_SIGNED]
        wrong += [f"0 1@{text}" for text in NO_NUMBERS]
        wrong += [f"0 1@{text} 1@0" for text in NO_NUMBERS]
        for text in wrong:
            self.check_refused(NoText, read_form, text)
            if ", " not in text:
                self.check_refused(NoText, read_forms, text + ", 0")
                self.check_refused(NoText, read_forms, "0, " + text)
                if text != "-":
                    self.check_refused(NoText, read_forms, text)

    def test_texts_of_any_kind(self):
        # Written as an expression of its own, and asked of many texts near to what is right.
        number = r"(0|[1-9][0-9]{0,29})"
        right = re.compile(rf"(-(?!0)|){number}( (-(?!0)|){number}@{number})*")
        chance = random.Random(35)
        found = {True: 0, False: 0}
        for turn in range(4000):
            text = list(show_form(chance_form(chance)))
            for change in range(chance.randrange(3)):
                place = chance.randrange(len(text) + 1)
                text[place:place + chance.randrange(2)] = chance.choice(("", "0", "1", " ", "-", "@", ",", "\n", "\t"))
            text = "".join(text)
            expected = right.fullmatch(text) is not None
            found[expected] += 1
            if expected:
                self.assertEqual(show_form(read_form(text)), text)
            else:
                self.check_refused(NoText, read_form, text)
        self.assertGreater(min(found.values()), 1000)


class TestForms(NotesCase):
    def test_shown_and_read(self):
        for forms, text in (((), "-"), (((0, ()),), "0"), (((3, ((0, 2), (1, -1))), (-4, ())), "3 2@0 -1@1, -4"),
                            (((0, ()), (0, ()), (0, ())), "0, 0, 0"), (((-1, ()), (1, ((0, 1),))), "-1, 1 1@0")):
            with self.subTest(text=text):
                self.assertEqual(show_forms(forms), text)
                self.assertEqual(read_forms(text), forms)
                self.assertIs(type(read_forms(text)), tuple)

    def test_one_form_alone_is_never_none(self):
        self.check_refused(NoText, read_form, "-")
        self.assertEqual(read_forms("-"), ())

    def test_what_are_no_forms(self):
        wrong = (
            "", " ", ",", ", ", "0,", "0, ", ", 0", "0,0", "0 ,0", "0 , 0", "0,  0", "0, 0 ", " 0, 0", "0, 0,",
            "0, , 0", "0,, 0", "0;0", "-, -", "0, -", "-, 0", "- ", " -", "--", "-\n", "\n", "-\t", "0,\n0", "0\n, 0",
            "0,\t0", "0, 00", "0, -0", "0, " + "9" * 31, "0 / 0", "0 1@0,1", "0 1@0, 1@0",
        )
        for text in wrong:
            self.check_refused(NoText, read_forms, text)

    def test_many_forms(self):
        forms = tuple((form % 10, ()) for form in range(1000))
        text = show_forms(forms)
        self.assertEqual(len(text), 2998)
        self.assertEqual(read_forms(text), forms)

    def test_what_is_handed_in_stays(self):
        forms = ((3, ((0, 2),)), (4, ()))
        before = copy.deepcopy(forms)
        show_forms(forms)
        show_form(forms[0])
        self.assertEqual(forms, before)


if __name__ == "__main__":
    unittest.main()
