"""Point 2 over the whole program: what is handed in stays, and what is told is the asker's own."""
import copy
import unittest

from ratehall.code import code_of, drawn, filled, run
from ratehall.errors import RateError
from ratehall.floor import Floor
from ratehall.hall import Hall
from ratehall.joins import Joint
from ratehall.least import least_rooms, low_rooms, raised
from ratehall.mill import Mill, form_value
from ratehall.notes import read_form, read_forms, read_hall, show_form, show_forms, show_hall
from ratehall.pieces import pieces_of
from ratehall.rates import change_of, rates_of
from ratehall.rooms import backed, fitting, lean_rooms, peaks
from ratehall.rounds import round_of

ROWS = ["work a", "work b", "work c", "belt a 2 3 b 1", "belt b 1 2 c 0", "belt c 2 1 b 2"]
STUCK = ["work a", "work b", "belt a 1 1 b 0", "belt b 1 1 a 0"]
UNBALANCED = ["work a", "work b", "belt a 1 1 b 0", "belt a 1 2 b 0"]
ROW = [0, 1, 0, 0, 1, 2]
FORMS = [((1, ()), (2, ())), ((0, ((0, 1), (3, 2))),), ((5, ((1, -1),)), (6, ()))]
PIECES = [[7], [], [8, -9]]
ROOMS = [4, 2, 4]


def told_by_hall(hall):
    works = range(len(hall.names()))
    return [hall.names(), hall.belts(), [hall.entering(work) for work in works], [hall.leaving(work) for work in works]]


def lying_behind(made, row):
    made.go(row)
    return made.lying()


def joint_told(hall, group, row):
    joint = Joint(hall, group)
    return (joint.made(), joint.place(), joint.inner(), joint.unfolded(row))


# Each question with what is handed in, made anew for each test.
QUESTIONS = (
    (told_by_hall, lambda: [read_hall(ROWS)]),
    (pieces_of, lambda: [read_hall(ROWS)]),
    (change_of, lambda: [read_hall(ROWS), [3, 2, 1]]),
    (rates_of, lambda: [read_hall(ROWS)]),
    (rates_of, lambda: [read_hall(UNBALANCED)]),
    (lambda hall, row: lying_behind(Floor(hall), row), lambda: [read_hall(ROWS), list(ROW)]),
    (round_of, lambda: [read_hall(ROWS)]),
    (round_of, lambda: [read_hall(STUCK)]),
    (backed, lambda: [read_hall(ROWS), list(ROOMS)]),
    (peaks, lambda: [read_hall(ROWS), list(ROW)]),
    (peaks, lambda: [read_hall(ROWS), []]),
    (fitting, lambda: [read_hall(ROWS), list(ROOMS)]),
    (fitting, lambda: [read_hall(ROWS), [3, 2, 2]]),
    (lean_rooms, lambda: [read_hall(ROWS)]),
    (low_rooms, lambda: [read_hall(ROWS)]),
    (raised, lambda: [read_hall(ROWS), list(ROOMS), [1, 0, 0], [3, 0, 4]]),
    (least_rooms, lambda: [read_hall(ROWS)]),
    (joint_told, lambda: [read_hall(ROWS), [2, 1], [0, 1, 0]]),
    (form_value, lambda: [(3, ((0, 2), (1, -1))), [10, 4]]),
    (lambda *made: Mill(*made).lying(), lambda: [read_hall(ROWS), list(FORMS), copy.deepcopy(PIECES)]),
    (lambda hall, forms, pieces, row: lying_behind(Mill(hall, forms, pieces), row),
     lambda: [read_hall(ROWS), list(FORMS), copy.deepcopy(PIECES), list(ROW)]),
    (filled, lambda: [read_hall(ROWS), list(ROOMS), copy.deepcopy(PIECES)]),
    (drawn, lambda: [read_hall(ROWS), list(ROOMS), list(range(10))]),
    (code_of, lambda: [read_hall(ROWS), list(ROOMS), list(ROW), list(FORMS)]),
    (run, lambda: [[(0, 1, ((1, 2),)), (2, 0, ((0, 1),))], [4, 5, 6]]),
    (run, lambda: [[], [4, 5, 6]]),
    (show_hall, lambda: [read_hall(ROWS)]),
    (read_hall, lambda: [list(ROWS)]),
    (show_form, lambda: [(3, ((0, 2), (1, -1)))]),
    (read_form, lambda: ["3 2@0 -1@1"]),
    (show_forms, lambda: [FORMS[2]]),
    (read_forms, lambda: ["3 2@0 -1@1, 4"]),
)


def frozen(thing):
    if isinstance(thing, Hall):
        return ("hall", thing.names(), thing.belts())
    if isinstance(thing, (list, tuple)):
        return (type(thing), [frozen(part) for part in thing])
    return (type(thing), thing)


def spoil(thing):
    """Changes all that can be changed in it."""
    if isinstance(thing, Hall):
        for belt, row in enumerate(thing.belts()):
            thing.fill(belt, row[4] + 1)
        thing.work("more")
        thing.belt(0, 0, 1, 1, 1)
    if isinstance(thing, (list, tuple)):
        for part in thing:
            spoil(part)
    if isinstance(thing, list):
        thing.reverse()
        thing.append("spoilt")
        thing[0] = "spoilt"


class TestKept(unittest.TestCase):
    def for_each(self, check):
        for number, (question, handed_in) in enumerate(QUESTIONS):
            with self.subTest(number=number, question=question.__name__):
                check(question, handed_in())

    def test_nothing_handed_in_is_changed(self):
        def check(question, handed_in):
            before = frozen(handed_in)
            question(*handed_in)
            self.assertEqual(frozen(handed_in), before)
        self.for_each(check)

    def test_the_same_is_told_again(self):
        def check(question, handed_in):
            self.assertEqual(frozen(question(*handed_in)), frozen(question(*handed_in)))
        self.for_each(check)

    def test_what_is_told_is_the_askers_own(self):
        def check(question, handed_in):
            before = frozen(handed_in)
            answer, other = question(*handed_in), question(*handed_in)
            expected = frozen(other)
            spoil(answer)
            self.assertEqual(frozen(handed_in), before)
            self.assertEqual(frozen(other), expected)
            self.assertEqual(frozen(question(*handed_in)), expected)
        self.for_each(check)

    def test_what_is_done_later_to_what_was_handed_in_changes_nothing(self):
        def check(question, handed_in):
            answer = question(*handed_in)
            expected = frozen(answer)
            spoil(handed_in)
            self.assertEqual(frozen(answer), expected)
        self.for_each(check)

    def test_what_is_refused_changes_nothing(self):
        wrong = (
            (Floor(read_hall(ROWS)).go, [[0, 1, 1, 9]]), (backed, [read_hall(ROWS), [0, 2, 4]]),
            (peaks, [read_hall(ROWS), [1, 1, 1]]), (fitting, [read_hall(ROWS), [4, 2]]),
            (lean_rooms, [read_hall(STUCK)]), (least_rooms, [read_hall(UNBALANCED)]), (Joint, [read_hall(ROWS), [0, 0]]),
            (Joint(read_hall(ROWS), [0]).unfolded, [[0, 5]]), (Mill, [read_hall(ROWS), FORMS[:2], PIECES]),
            (Mill, [read_hall(ROWS), list(FORMS), PIECES[:2]]), (filled, [read_hall(ROWS), list(ROOMS), [[], [], []]]),
            (drawn, [read_hall(ROWS), [4], [0] * 10]),
            (code_of, [read_hall(ROWS), list(ROOMS), [0, 1, 2], list(FORMS)]), (read_hall, [["work a", "work a"]]), (read_hall, [["work a", ""]]),
        )
        for question, handed_in in wrong:
            before = frozen(handed_in)
            with self.assertRaises(RateError):
                question(*handed_in)
            self.assertEqual(frozen(handed_in), before)

    def test_what_is_made_of_a_hall_keeps_to_it_as_it_was(self):
        for make, row in ((Floor, ROW), (lambda hall: Mill(hall, FORMS, PIECES), ROW)):
            hall = read_hall(ROWS)
            made, other = make(hall), make(read_hall(ROWS))
            spoil(hall)
            self.assertEqual(lying_behind(made, row), lying_behind(other, row))
        hall = read_hall(ROWS)
        joint, other = Joint(hall, [1, 2]), Joint(read_hall(ROWS), [1, 2])
        spoil(hall)
        self.assertEqual(frozen([joint.made(), joint.place(), joint.inner(), joint.unfolded([0, 1])]),
                         frozen([other.made(), other.place(), other.inner(), other.unfolded([0, 1])]))
        hall = read_hall(ROWS)
        made = backed(hall, ROOMS)
        before = frozen(made)
        spoil(hall)
        self.assertEqual(frozen(made), before)


if __name__ == "__main__":
    unittest.main()
