import copy
import random
import unittest
from string import ascii_lowercase

from ratehall.errors import Empty, NoForm, NoPieces, NoWork, RateError
from ratehall.floor import Floor
from ratehall.hall import MOST_BELTS, Hall
from ratehall.mill import Mill, form_value

LONG = 10 ** 30 - 1
NO_NUMBERS = (None, "0", "a", [0], (0,), True, False)


def hall_of(works, belts=()):
    """A hall of so many works; belts are laid, so that there may be as many as a backed hall has."""
    hall = Hall()
    for number in range(works):
        hall.work(ascii_lowercase[number // 26] + ascii_lowercase[number % 26])
    for belt in belts:
        hall.lay(tuple(belt) + (0,) * (5 - len(belt)))
    return hall


def told(hall):
    return (hall.names(), hall.belts())


def slots_of(hall, work):
    return sum(belt[3] for belt in hall.belts() if belt[1] == work)


def given_by(hall, work):
    return sum(belt[2] for belt in hall.belts() if belt[0] == work)


def plain_forms(hall):
    return [((0, ()),) * given_by(hall, work) for work in range(len(hall.names()))]


def plain_pieces(hall):
    return [[0] * belt[4] for belt in hall.belts()]


def chance_form(chance, slots):
    many = chance.randrange(4) if slots else 0
    return (chance.randrange(-9, 10), tuple((chance.randrange(slots), chance.randrange(-3, 4)) for term in range(many)))


def chance_forms(chance, hall):
    return [tuple(chance_form(chance, slots_of(hall, work)) for form in range(given_by(hall, work)))
            for work in range(len(hall.names()))]


def chance_pieces(chance, hall):
    return [[chance.randrange(-99, 100) for piece in range(belt[4])] for belt in hall.belts()]


class PlainMill:
    """Does turns piece by piece, as the document's words tell them."""

    def __init__(self, belts, forms, pieces):
        self.belts = belts
        self.forms = forms
        self.pieces = [list(lying) for lying in pieces]

    def refusal(self, work):
        if work not in range(len(self.forms)):
            return NoWork
        for (giver, taker, give, take, start), lying in zip(self.belts, self.pieces):
            if taker == work and len(lying) < take:
                return Empty
        return None

    def turn(self, work):
        slots = []
        for (giver, taker, give, take, start), lying in zip(self.belts, self.pieces):
            for piece in range(take if taker == work else 0):
                slots.append(lying.pop(0))
        values = []
        for constant, terms in self.forms[work]:
            for slot, factor in terms:
                constant += slots[slot] * factor
            values.append(constant)
        for (giver, taker, give, take, start), lying in zip(self.belts, self.pieces):
            for piece in range(give if giver == work else 0):
                lying.append(values.pop(0))

    def go(self, row):
        before = copy.deepcopy(self.pieces)
        for work in row:
            refusal = self.refusal(work)
            if refusal is not None:
                self.pieces = before
                return refusal
            self.turn(work)
        return None


class MillCase(unittest.TestCase):
    def check_refused(self, mill, refusal, asked, handed_in):
        before = mill.lying()
        with self.subTest(asked=asked, handed_in=handed_in):
            with self.assertRaises(refusal) as refused:
                getattr(mill, asked)(handed_in)
            self.assertIs(type(refused.exception), refusal)
            self.assertEqual(mill.lying(), before)

    def check_not_made(self, refusal, hall, forms, pieces):
        with self.subTest(forms=forms, pieces=pieces):
            with self.assertRaises(refusal) as refused:
                Mill(hall, forms, pieces)
            self.assertIs(type(refused.exception), refusal)


class TestFormValue(unittest.TestCase):
    def test_no_terms(self):
        for constant in (0, 1, -1, 7, LONG, -LONG):
            self.assertEqual(form_value((constant, ()), []), constant)
            self.assertEqual(form_value((constant, ()), [5, 6]), constant)

    def test_terms(self):
        self.assertEqual(form_value((3, ((0, 2), (1, -1))), [10, 4]), 19)
        self.assertEqual(form_value((0, ((1, 1),)), [10, 4]), 4)
        self.assertEqual(form_value((0, ((0, 1),)), [10, 4]), 10)
        self.assertEqual(form_value((-5, ((2, 3),)), [1, 2, -7]), -26)

    def test_factors_of_nought(self):
        self.assertEqual(form_value((4, ((0, 0), (1, 0))), [9, 8]), 4)

    def test_a_slot_twice(self):
        self.assertEqual(form_value((1, ((0, 2), (0, 3))), [10]), 51)
        self.assertEqual(form_value((1, ((1, 2), (0, 5), (1, -2))), [10, 7]), 51)
        self.assertEqual(form_value((0, ((0, 1), (0, 1), (0, 1))), [-4]), -12)

    def test_below_0(self):
        self.assertEqual(form_value((-1, ((0, -2),)), [-3]), 5)
        self.assertEqual(form_value((-1, ((0, 2),)), [-3]), -7)

    def test_thirty_figures(self):
        self.assertEqual(form_value((LONG, ((0, LONG), (1, -LONG))), [LONG, -LONG]), LONG + 2 * LONG * LONG)
        self.assertEqual(form_value((-LONG, ((0, LONG),)), [-LONG]), -LONG - LONG * LONG)

    def test_pieces_of_three_thousand_figures(self):
        piece = 10 ** 2999 + 1
        self.assertEqual(form_value((1, ((0, -1),)), [piece]), -10 ** 2999)

    def test_as_many_terms_as_there_may_be(self):
        terms = tuple((slot, slot - 150) for slot in range(300))
        self.assertEqual(form_value((6, terms), list(range(300))), 6 + sum(slot * (slot - 150) for slot in range(300)))
        self.assertEqual(form_value((0, ((0, 1),) * 300), [2]), 600)

    def test_what_is_handed_in_stays(self):
        form, pieces = (3, ((0, 2), (1, -1))), [10, 4]
        form_value(form, pieces)
        self.assertEqual((form, pieces), ((3, ((0, 2), (1, -1))), [10, 4]))


class TestNoForm(MillCase):
    def setUp(self):
        # The second work takes 2 from the first belt, then 3 from the third one: five slots.
        self.hall = hall_of(3, [(0, 1, 2, 2, 4), (2, 0, 3, 1, 1), (2, 1, 1, 3, 2), (1, 2, 2, 1, 0)])
        self.forms = [((1, ((0, 1),)), (2, ())), ((0, ((0, 1), (4, 1))), (0, ())), ((7, ((0, 1),)),) * 4]
        self.pieces = [[1, 2, 3, 4], [5], [6, 7], []]

    def test_those_that_are_right(self):
        self.assertEqual(Mill(self.hall, self.forms, self.pieces).lying(), self.pieces)
        for hall in (Hall(), hall_of(3)):
            self.assertEqual(Mill(hall, plain_forms(hall), []).lying(), [])

    def test_too_few_or_too_many_tuples(self):
        for forms in ([], self.forms[:2], self.forms + [()], self.forms + [((0, ()),)], self.forms[1:]):
            self.check_not_made(NoForm, self.hall, forms, self.pieces)
        self.check_not_made(NoForm, Hall(), [()], [])
        self.check_not_made(NoForm, hall_of(1), [], [])
        self.check_not_made(NoForm, hall_of(1), [(), ()], [])

    def test_too_few_or_too_many_forms(self):
        for work in range(3):
            for others in (self.forms[work][:-1], self.forms[work] + ((0, ()),), ()):
                forms = list(self.forms)
                forms[work] = others
                self.check_not_made(NoForm, self.hall, forms, self.pieces)
        self.check_not_made(NoForm, hall_of(1), [((0, ()),)], [])

    def test_as_many_in_all_but_at_the_wrong_works(self):
        forms = [self.forms[0] + ((0, ()),), self.forms[1][:-1], self.forms[2]]
        self.check_not_made(NoForm, self.hall, forms, self.pieces)

    def test_more_given_than_can_be_told(self):
        hall = hall_of(1, [(0, 0, LONG, LONG, 0)])
        self.check_not_made(NoForm, hall, [((0, ()),) * 3000], [[]])
        self.check_not_made(NoForm, hall, [()], [[]])

    def test_a_slot_that_the_work_hasnt(self):
        for work, slots in ((0, 1), (1, 5), (2, 1)):
            for slot in (slots, slots + 1, LONG, -1, -slots, -LONG) + NO_NUMBERS:
                for form in ((0, ((slot, 1),)), (0, ((0, 1), (slot, 0)))):
                    for place in (0, len(self.forms[work]) - 1):
                        forms = list(self.forms)
                        forms[work] = forms[work][:place] + (form,) + forms[work][place + 1:]
                        self.check_not_made(NoForm, self.hall, forms, self.pieces)
        self.check_not_made(NoForm, hall_of(2, [(0, 1, 1, 1)]), [((0, ((0, 1),)),), ()], [[]])

    def test_the_last_slot_that_it_has(self):
        for work, slots in ((0, 1), (1, 5), (2, 1)):
            forms = list(self.forms)
            forms[work] = ((0, ((slots - 1, 1), (0, 1))),) * len(forms[work])
            Mill(self.hall, forms, self.pieces)

    def test_slots_of_what_is_taken_however_much_is_lying(self):
        hall = hall_of(2, [(0, 1, 1, 2, 9), (1, 0, 1, 1, 0)])
        self.check_not_made(NoForm, hall, [((0, ()),), ((0, ((2, 1),)),)], [[0] * 9, []])
        hall = hall_of(2, [(0, 1, 1, 2, 0), (1, 0, 1, 1, 0)])
        Mill(hall, [((0, ()),), ((0, ((1, 1),)),)], [[], []])

    def test_ahead_of_no_pieces(self):
        for forms in ([], self.forms[:2], [self.forms[0], (), self.forms[2]]):
            for pieces in ([], self.pieces[:3], [[1]] * 4):
                self.check_not_made(NoForm, self.hall, forms, pieces)


class TestNoPieces(MillCase):
    def setUp(self):
        self.hall = hall_of(2, [(0, 1, 2, 2, 3), (1, 0, 1, 1, 0), (0, 0, 1, 1, 1)])
        self.forms = plain_forms(self.hall)

    def test_as_many_as_the_starts(self):
        self.assertEqual(Mill(self.hall, self.forms, [[4, -5, 6], [], [0]]).lying(), [[4, -5, 6], [], [0]])

    def test_too_few_or_too_many_lists(self):
        for pieces in ([], [[4, 5, 6]], [[4, 5, 6], []], [[4, 5, 6], [], [0], []], [[4, 5, 6], [], [0], [1]]):
            self.check_not_made(NoPieces, self.hall, self.forms, pieces)
        self.check_not_made(NoPieces, Hall(), [], [[]])
        self.check_not_made(NoPieces, hall_of(1), [()], [[]])

    def test_lists_not_as_long_as_the_start(self):
        for pieces in ([[4, 5], [], [0]], [[4, 5, 6, 7], [], [0]], [[], [], [0]], [[4, 5, 6], [1], [0]],
                       [[4, 5, 6], [], []], [[4, 5, 6], [], [0, 1]], [[4, 5], [6], [0]], [[0], [], [4, 5, 6]]):
            self.check_not_made(NoPieces, self.hall, self.forms, pieces)

    def test_a_start_that_no_list_has(self):
        hall = hall_of(1, [(0, 0, 1, 1, LONG)])
        for pieces in ([[]], [[1] * 3000]):
            self.check_not_made(NoPieces, hall, plain_forms(hall), pieces)


class TestTurn(MillCase):
    def test_the_oldest_is_taken_and_what_is_given_is_laid_behind(self):
        hall = hall_of(2, [(0, 1, 2, 1, 2), (1, 0, 1, 1, 0)])
        mill = Mill(hall, [((10, ((0, 1),)), (20, ())), ((5, ((0, 3),)),)], [[1, 2], []])
        self.assertIsNone(mill.turn(1))
        self.assertEqual(mill.lying(), [[2], [8]])
        mill.turn(1)
        self.assertEqual(mill.lying(), [[], [8, 11]])
        mill.turn(0)
        self.assertEqual(mill.lying(), [[18, 20], [11]])
        mill.turn(0)
        self.assertEqual(mill.lying(), [[18, 20, 21, 20], []])
        mill.turn(1)
        self.assertEqual(mill.lying(), [[20, 21, 20], [59]])

    def test_slots_belt_by_belt_the_oldest_first(self):
        # Belts that lead to the last work: the first, the third and the fourth, whoever gives on them.
        hall = hall_of(3, [(1, 2, 1, 2, 3), (2, 1, 6, 1, 0), (0, 2, 1, 1, 2), (1, 2, 1, 3, 3)])
        forms = [((0, ()),), ((0, ()), (0, ())), tuple((0, ((slot, 1),)) for slot in range(6))]
        mill = Mill(hall, forms, [[11, 12, 13], [], [21, 22], [31, 32, 33]])
        mill.turn(2)
        self.assertEqual(mill.lying(), [[13], [11, 12, 21, 31, 32, 33], [22], []])

    def test_forms_belt_by_belt_the_first_given_first(self):
        # Belts that lead from the first work: the second, the third and the last.
        hall = hall_of(3, [(1, 0, 1, 1, 1), (0, 2, 2, 1, 1), (0, 1, 1, 1, 0), (2, 1, 1, 1, 0), (0, 2, 3, 1, 0)])
        forms = [tuple((10 * form, ((0, 1),)) for form in range(6)), ((0, ()),), ((0, ()),)]
        mill = Mill(hall, forms, [[7], [99], [], [], []])
        mill.turn(0)
        self.assertEqual(mill.lying(), [[], [99, 7, 17], [27], [], [37, 47, 57]])

    def test_all_forms_by_the_pieces_taken(self):
        # On the belt from the work to itself the turn's own pieces are laid only when all forms are done.
        hall = hall_of(1, [(0, 0, 2, 2, 2)])
        mill = Mill(hall, [((0, ((1, 1),)), (0, ((0, 1),)))], [[1, 2]])
        mill.turn(0)
        self.assertEqual(mill.lying(), [[2, 1]])
        mill.turn(0)
        self.assertEqual(mill.lying(), [[1, 2]])
        mill = Mill(hall, [((0, ((0, 1), (1, 1))), (0, ((0, 1), (1, -1))))], [[5, 3]])
        mill.turn(0)
        self.assertEqual(mill.lying(), [[8, 2]])
        mill.turn(0)
        self.assertEqual(mill.lying(), [[10, 6]])

    def test_from_a_work_to_itself(self):
        hall = hall_of(1, [(0, 0, 3, 1, 2)])
        mill = Mill(hall, [((0, ((0, 2),)), (1, ()), (0, ((0, -1),)))], [[7, 8]])
        mill.turn(0)
        self.assertEqual(mill.lying(), [[8, 14, 1, -7]])
        mill.turn(0)
        self.assertEqual(mill.lying(), [[14, 1, -7, 16, 1, -8]])

    def test_what_is_given_cannot_be_taken_in_the_same_turn(self):
        hall = hall_of(1, [(0, 0, 5, 2, 1)])
        self.check_refused(Mill(hall, plain_forms(hall), [[3]]), Empty, "turn", 0)

    def test_works_that_take_or_give_nothing(self):
        hall = hall_of(3, [(0, 1, 2, 1, 0)])
        mill = Mill(hall, [((4, ()), (-5, ())), (), ()], [[]])
        mill.go([2, 0, 0, 1, 2])
        self.assertEqual(mill.lying(), [[-5, 4, -5]])

    def test_sums_along_the_belts(self):
        # Each turn adds the next odd number: squares come out.
        hall = hall_of(1, [(0, 0, 1, 1, 1), (0, 0, 1, 1, 1)])
        mill = Mill(hall, [((2, ((0, 1),)), (0, ((0, 1), (1, 1))))], [[1], [0]])
        for number in range(1, 50):
            mill.turn(0)
            self.assertEqual(mill.lying(), [[2 * number + 1], [number * number]])

    def test_long_numbers(self):
        hall = hall_of(1, [(0, 0, 1, 1, 1)])
        mill = Mill(hall, [((-LONG, ((0, LONG),)),)], [[-LONG]])
        value = -LONG
        for turn in range(90):
            mill.turn(0)
            value = value * LONG - LONG
        self.assertEqual(mill.lying(), [[value]])
        self.assertLess(value, -10 ** 2700)

    def test_refused(self):
        hall = hall_of(3, [(0, 2, 1, 2, 2), (1, 2, 1, 3, 2), (2, 0, 1, 1, 0)])
        mill = Mill(hall, plain_forms(hall), [[1, 2], [3, 4], []])
        self.check_refused(mill, Empty, "turn", 2)
        self.check_refused(mill, Empty, "turn", 0)
        for number in (-1, -2, 3, 4, LONG, -LONG) + NO_NUMBERS:
            self.check_refused(mill, NoWork, "turn", number)
        mill.turn(1)
        mill.turn(2)
        self.assertEqual(mill.lying(), [[], [], [0]])
        self.check_refused(Mill(Hall(), [], []), NoWork, "turn", 0)


class TestGo(MillCase):
    def setUp(self):
        self.hall = hall_of(2, [(0, 1, 1, 1, 0)])
        self.mill = Mill(self.hall, [((3, ()),), ()], [[]])

    def test_a_row(self):
        hall = hall_of(2, [(0, 1, 2, 3, 1), (1, 0, 3, 2, 4)])
        forms = [((1, ((0, 1),)), (1, ((1, 1),))), ((0, ((0, 2),)), (0, ((1, 2),)), (0, ((2, 2),)))]
        mill = Mill(hall, forms, [[7], [10, 20, 30, 40]])
        self.assertIsNone(mill.go([0, 1, 0, 0, 1]))
        # The first work makes 11, 21, then 31, 41, then 15, 23; the other one takes 7, 11, 21, then 31, 41, 15.
        self.assertEqual(mill.lying(), [[23], [42, 62, 82, 30]])

    def test_the_empty_row(self):
        self.assertIsNone(self.mill.go([]))
        self.assertEqual(self.mill.lying(), [[]])
        self.assertIsNone(Mill(Hall(), [], []).go([]))

    def test_whole_or_not_at_all(self):
        for row in ([1], [1, 0], [0, 1, 1], [0, 0, 1, 1, 1, 0], [0] * 1499 + [1] * 1500):
            self.check_refused(self.mill, Empty, "go", row)
        self.mill.go([0, 0, 1])
        self.assertEqual(self.mill.lying(), [[3]])
        for row in ([1, 1], [0, 1, 1, 1]):
            self.check_refused(self.mill, Empty, "go", row)
        self.mill.turn(1)
        self.assertEqual(self.mill.lying(), [[]])

    def test_refused_as_the_first_that_cannot_be_done(self):
        self.check_refused(self.mill, Empty, "go", [1, 2])
        self.check_refused(self.mill, Empty, "go", [0, 1, 1, -1])
        self.check_refused(self.mill, NoWork, "go", [2, 1])
        self.check_refused(self.mill, NoWork, "go", [0, 1, -1, 1])
        self.check_refused(self.mill, NoWork, "go", [0, 1, 0, LONG])
        for number in NO_NUMBERS:
            self.check_refused(self.mill, NoWork, "go", [0, number, 1, 1])

    def test_behind_a_refusal_all_goes_on(self):
        self.check_refused(self.mill, Empty, "go", [0, 0, 1, 1, 1])
        self.mill.go([0, 1, 0])
        self.assertEqual(self.mill.lying(), [[3]])
        self.check_refused(self.mill, NoWork, "go", [1, 0, 5])
        self.check_refused(self.mill, Empty, "go", [1, 1])
        self.mill.go([1])
        self.assertEqual(self.mill.lying(), [[]])

    def test_long_rows(self):
        hall = hall_of(2, [(0, 1, 2, 3), (0, 0, 1, 1, 1)])
        forms = [((0, ((0, 1),)), (0, ((0, -1),)), (1, ((0, 1),))), ()]
        mill = Mill(hall, forms, [[], [1]])
        mill.go([0] * 3000)
        self.assertEqual(mill.lying(), [[sign * number for number in range(1, 3001) for sign in (1, -1)], [3001]])
        mill.go([1] * 1999)
        self.assertEqual(mill.lying(), [[-2999, 3000, -3000], [3001]])
        mill.go([0, 1])
        self.assertEqual(mill.lying(), [[3001, -3001], [3002]])

    def test_a_belt_on_which_ever_more_lies(self):
        hall = hall_of(2, [(0, 1, 1000, 1)])
        mill = Mill(hall, [tuple((form, ()) for form in range(1000)), ()], [[]])
        mill.go([0, 1] * 1000)
        self.assertEqual(mill.lying(), [list(range(1000)) * 999])
        for turn in range(1500):
            mill.turn(1)
        self.assertEqual(mill.lying(), [list(range(500, 1000)) + list(range(1000)) * 997])

    def test_mills_of_any_kind(self):
        chance = random.Random(29)
        found = {None: 0, Empty: 0, NoWork: 0}
        for turn in range(200):
            works = chance.randrange(1, 5)
            belts = [(chance.randrange(works), chance.randrange(works), chance.randrange(1, 4), chance.randrange(1, 4),
                      chance.randrange(6)) for belt in range(chance.randrange(7))]
            hall = hall_of(works, belts)
            forms, pieces = chance_forms(chance, hall), chance_pieces(chance, hall)
            mill, plain, floor = Mill(hall, forms, pieces), PlainMill(belts, forms, pieces), Floor(hall)
            for row in range(12):
                row = [chance.randrange(works) for work in range(chance.randrange(5))]
                if chance.randrange(6) == 0:
                    row.insert(chance.randrange(len(row) + 1), chance.choice((-1, works, works + 1)))
                answers = []
                for each in (mill, floor):
                    try:
                        each.go(row)
                        answers.append(None)
                    except RateError as refusal:
                        answers.append(type(refusal))
                with self.subTest(belts=belts, forms=forms, pieces=pieces, row=row):
                    self.assertEqual(answers, [plain.go(row)] * 2)
                    self.assertEqual(mill.lying(), plain.pieces)
                    self.assertEqual([len(lying) for lying in mill.lying()], floor.lying())
                found[answers[0]] += 1
        self.assertGreater(min(found.values()), 100)

    def test_pieces_hang_only_on_how_often_each_work_turned(self):
        chance = random.Random(30)
        others = 0
        for turn in range(150):
            works = chance.randrange(2, 5)
            belts = [(chance.randrange(works), chance.randrange(works), chance.randrange(1, 4), chance.randrange(1, 4),
                      chance.randrange(2, 8)) for belt in range(chance.randrange(1, 6))]
            hall = hall_of(works, belts)
            forms, pieces = chance_forms(chance, hall), chance_pieces(chance, hall)
            floor, row = Floor(hall), []
            for step in range(20):
                ready = [work for work in range(works) if floor.ready(work)]
                if ready:
                    row.append(chance.choice(ready))
                    floor.turn(row[-1])
            one = Mill(hall, forms, pieces)
            one.go(row)
            # The same turns in another order, each drawn from those that are left and ready.
            other, floor, left, order = Mill(hall, forms, pieces), Floor(hall), list(row), []
            while left:
                order.append(chance.choice([work for work in left if floor.ready(work)]))
                left.remove(order[-1])
                floor.turn(order[-1])
                other.turn(order[-1])
            others += order != row
            with self.subTest(belts=belts, forms=forms, pieces=pieces, row=row, order=order):
                self.assertEqual(one.lying(), other.lying())
        self.assertGreater(others, 75)

    def test_as_many_belts_as_a_backed_hall_has(self):
        belts = [(0, 1, 1, 2, 1) for belt in range(MOST_BELTS)] + [(1, 0, 2, 1, 2) for belt in range(MOST_BELTS)]
        hall = hall_of(2, belts)
        chance = random.Random(31)
        forms, pieces = chance_forms(chance, hall), chance_pieces(chance, hall)
        mill, plain = Mill(hall, forms, pieces), PlainMill(belts, forms, pieces)
        for row in ([0, 0, 1], [0, 1, 0]):
            mill.go(row)
            plain.go(row)
            self.assertEqual(mill.lying(), plain.pieces)
        self.check_refused(mill, Empty, "go", [0, 0, 0])


class TestKept(MillCase):
    def setUp(self):
        self.hall = hall_of(2, [(0, 1, 2, 3, 4), (1, 0, 1, 1, 1)])
        self.forms = [((1, ((0, 1),)), (2, ((0, -1),))), ((3, ((2, 5),)),)]
        self.pieces = [[10, 20, 30, 40], [50]]

    def rows_told(self, mill):
        lists = []
        for row in ([1, 0], [0, 1], [0]):
            mill.go(row)
            lists.append(mill.lying())
        return lists

    def test_the_hall_changed_behind_the_making(self):
        expected = self.rows_told(Mill(self.hall, self.forms, self.pieces))
        mill = Mill(self.hall, self.forms, self.pieces)
        self.hall.fill(0, 0)
        self.hall.fill(1, 9)
        self.hall.belt(0, 1, 1, 9)
        self.hall.work("more")
        self.hall.belt(2, 0, 1, 9)
        self.assertEqual(mill.lying(), [[10, 20, 30, 40], [50]])
        self.check_refused(mill, NoWork, "turn", 2)
        self.assertEqual(self.rows_told(mill), expected)

    def test_the_forms_and_the_pieces_changed_behind_the_making(self):
        expected = self.rows_told(Mill(self.hall, self.forms, self.pieces))
        mill = Mill(self.hall, self.forms, self.pieces)
        self.forms[0] = ((0, ()), (0, ()))
        self.forms.pop()
        self.pieces[0][0] = 0
        self.pieces[0].append(7)
        self.pieces[1].clear()
        self.pieces.append([1])
        self.assertEqual(mill.lying(), [[10, 20, 30, 40], [50]])
        self.assertEqual(self.rows_told(mill), expected)
        self.forms.clear()
        self.pieces.clear()
        mill.turn(1)
        self.assertEqual(len(mill.lying()), 2)

    def test_told_lists_changed(self):
        expected = self.rows_told(Mill(self.hall, self.forms, self.pieces))
        mill = Mill(self.hall, self.forms, self.pieces)
        lists = mill.lying()
        self.assertIs(type(lists), list)
        self.assertEqual([type(lying) for lying in lists], [list, list])
        lists[0][0] = 0
        lists[1].clear()
        lists[0].append(3)
        lists.pop()
        self.assertEqual(mill.lying(), [[10, 20, 30, 40], [50]])
        self.assertEqual(self.pieces, [[10, 20, 30, 40], [50]])
        self.assertEqual(self.rows_told(mill), expected)

    def test_later_turns_change_no_told_list(self):
        mill = Mill(self.hall, self.forms, self.pieces)
        kept = []
        for work in (0, 1, 0, 1):
            lists = mill.lying()
            kept.append((lists, copy.deepcopy(lists)))
            mill.turn(work)
        for lists, before in kept:
            self.assertEqual(lists, before)

    def test_nothing_handed_in_is_changed(self):
        before = copy.deepcopy((told(self.hall), self.forms, self.pieces))
        mill = Mill(self.hall, self.forms, self.pieces)
        row = [0, 1, 0]
        mill.go(row)
        mill.turn(1)
        self.assertEqual((told(self.hall), self.forms, self.pieces), before)
        self.assertEqual(row, [0, 1, 0])
        row = [1, 1, 1, 1, 1]
        self.check_refused(mill, Empty, "go", row)
        self.assertEqual(row, [1, 1, 1, 1, 1])
        for forms, pieces in ((self.forms[:1], self.pieces), (self.forms, self.pieces[:1])):
            with self.assertRaises(RateError):
                Mill(self.hall, forms, pieces)
        self.assertEqual((told(self.hall), self.forms, self.pieces), before)

    def test_the_row_changed_later(self):
        mill = Mill(self.hall, self.forms, self.pieces)
        row = [0, 1]
        mill.go(row)
        lists = mill.lying()
        row.append(0)
        row[0] = 9
        self.assertEqual(mill.lying(), lists)

    def test_two_mills_of_the_same_lists(self):
        one, other = Mill(self.hall, self.forms, self.pieces), Mill(self.hall, self.forms, self.pieces)
        one.go([0, 1])
        self.assertEqual(other.lying(), [[10, 20, 30, 40], [50]])
        floor = Floor(self.hall)
        other.turn(1)
        self.assertEqual(floor.lying(), [4, 1])
        self.assertEqual(other.lying(), [[40], [50, 153]])


if __name__ == "__main__":
    unittest.main()
