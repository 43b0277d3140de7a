import copy
import random
import unittest
from math import gcd
from string import ascii_lowercase

from ratehall.code import MOST_ROWS, code_of, drawn, filled, run
from ratehall.errors import NoFit, NoForm, NoPieces, NoRoom, NotBalanced, RateError, TooLong
from ratehall.hall import Hall
from ratehall.joins import Joint
from ratehall.mill import Mill
from ratehall.rates import rates_of
from ratehall.rooms import fitting, lean_rooms, peaks
from ratehall.rounds import round_of

LONG = 10 ** 30 - 1
NO_NUMBERS = (None, "0", [0], (0,), True, False)


def hall_of(works, belts=()):
    hall = Hall()
    for number in range(works):
        hall.work(ascii_lowercase[number // 26] + ascii_lowercase[number % 26])
    for belt in belts:
        hall.lay(tuple(belt) + (0,) * (5 - len(belt)))
    return hall


def told(hall):
    return (hall.names(), hall.belts())


def slots_of(hall, work):
    return sum(belt[3] for belt in hall.belts() if belt[1] == work)


def given_by(hall, work):
    return sum(belt[2] for belt in hall.belts() if belt[0] == work)


def plain_forms(hall):
    return [((0, ()),) * given_by(hall, work) for work in range(len(hall.names()))]


def chance_form(chance, slots):
    many = chance.randrange(4) if slots else 0
    return (chance.randrange(-9, 10), tuple((chance.randrange(slots), chance.randrange(-3, 4)) for term in range(many)))


def chance_forms(chance, hall):
    return [tuple(chance_form(chance, slots_of(hall, work)) for form in range(given_by(hall, work)))
            for work in range(len(hall.names()))]


def chance_pieces(chance, hall):
    return [[chance.randrange(-99, 100) for piece in range(belt[4])] for belt in hall.belts()]


def chance_hall(chance, most_works, most_belts, most_rate, starts):
    """Belts that fit rates drawn ahead."""
    works = chance.randrange(1, most_works + 1)
    rates = [chance.randrange(1, most_rate + 1) for work in range(works)]
    rows = []
    for belt in range(chance.randrange(most_belts + 1)):
        giver, taker = chance.randrange(works), chance.randrange(works)
        common, often = gcd(rates[giver], rates[taker]), chance.randrange(1, 3)
        give, take = rates[taker] // common * often, rates[giver] // common * often
        rows.append((giver, taker, give, take, chance.choice(starts)))
    return hall_of(works, rows)


def chance_round(chance, hall, rooms):
    """A round within the rooms: each time any ready work with turns left, as no choice leads astray."""
    left = rates_of(hall)[0]
    lying = [belt[4] for belt in hall.belts()]
    row = []
    while any(left):
        able = []
        for work, turns in enumerate(left):
            short = [belt for belt, (giver, taker, give, take, start) in enumerate(hall.belts())
                     if taker == work and lying[belt] < take or giver == work and rooms[belt] - lying[belt] < give]
            if turns and not short:
                able.append(work)
        work = chance.choice(able)
        row.append(work)
        left[work] -= 1
        for belt, (giver, taker, give, take, start) in enumerate(hall.belts()):
            lying[belt] += (give if giver == work else 0) - (take if taker == work else 0)
    return row


def is_round_within(hall, rooms, row):
    lying = [belt[4] for belt in hall.belts()]
    for work in row:
        for belt, (giver, taker, give, take, start) in enumerate(hall.belts()):
            if taker == work and lying[belt] < take or giver == work and rooms[belt] - lying[belt] < give:
                return False
        for belt, (giver, taker, give, take, start) in enumerate(hall.belts()):
            lying[belt] += (give if giver == work else 0) - (take if taker == work else 0)
    return [row.count(work) for work in range(len(hall.names()))] == rates_of(hall)[0]


def plain_laps(hall, rooms, row):
    laps = 1
    while [belt for belt, (giver, taker, give, take, start) in enumerate(hall.belts())
           if laps * row.count(giver) * give % rooms[belt] != 0]:
        laps += 1
    return laps


def plain_code(hall, rooms, row, forms):
    """Follows the numbers of the pieces one by one, as the document's words tell them."""
    belts = hall.belts()
    queues = [list(range(belt[4])) for belt in belts]
    counts = [belt[4] for belt in belts]
    laps = plain_laps(hall, rooms, row)
    code = []
    for work in row * laps:
        slots = []
        for belt, (giver, taker, give, take, start) in enumerate(belts):
            for piece in range(take if taker == work else 0):
                slots.append(sum(rooms[:belt]) + queues[belt].pop(0) % rooms[belt])
        left = list(forms[work])
        for belt, (giver, taker, give, take, start) in enumerate(belts):
            for piece in range(give if giver == work else 0):
                constant, terms = left.pop(0)
                box = sum(rooms[:belt]) + counts[belt] % rooms[belt]
                code.append((box, constant, tuple((slots[slot], factor) for slot, factor in terms)))
                queues[belt].append(counts[belt])
                counts[belt] += 1
    return (laps, code)


class CodeCase(unittest.TestCase):
    def check_refused(self, refusal, function, *handed_in):
        with self.subTest(handed_in=[told(thing) if isinstance(thing, Hall) else thing for thing in handed_in]):
            with self.assertRaises(refusal) as refused:
                function(*handed_in)
            self.assertIs(type(refused.exception), refusal)


class TestBoxes(CodeCase):
    def setUp(self):
        self.hall = hall_of(2, [(0, 1, 1, 1, 2), (1, 0, 1, 1, 0), (0, 0, 2, 2, 3)])
        self.pieces = [[7, -8], [], [1, 2, 3]]

    def test_filled(self):
        self.assertEqual(filled(self.hall, [3, 2, 5], self.pieces), [7, -8, 0, 0, 0, 1, 2, 3, 0, 0])
        self.assertEqual(filled(self.hall, [2, 0, 3], self.pieces), [7, -8, 1, 2, 3])
        self.assertEqual(filled(self.hall, [2, 1, 4], self.pieces), [7, -8, 0, 1, 2, 3, 0])
        self.assertEqual(filled(self.hall, [4, 0, 3], [[0, LONG], [], [-LONG, 0, 0]]), [0, LONG, 0, 0, -LONG, 0, 0])

    def test_without_belts(self):
        for hall in (Hall(), hall_of(3)):
            self.assertEqual(filled(hall, [], []), [])
            self.assertEqual(drawn(hall, [], []), [])
            self.check_refused(NoRoom, filled, hall, [0], [])
            self.check_refused(NoRoom, drawn, hall, [0], [])
            self.check_refused(NoPieces, filled, hall, [], [[]])

    def test_three_thousand_boxes(self):
        hall = hall_of(1, [(0, 0, 1, 1, 1000), (0, 0, 1, 1, 1)])
        pieces = [list(range(1000)), [-1]]
        boxes = filled(hall, [1999, 1001], pieces)
        self.assertEqual(boxes, list(range(1000)) + [0] * 999 + [-1] + [0] * 1000)
        self.assertEqual(drawn(hall, [1999, 1001], boxes), pieces)

    def test_drawn(self):
        boxes = list(range(10, 20))
        self.assertEqual(drawn(self.hall, [3, 2, 5], boxes), [[10, 11], [], [15, 16, 17]])
        self.assertEqual(drawn(self.hall, [2, 0, 3], boxes[:5]), [[10, 11], [], [12, 13, 14]])
        self.assertEqual(drawn(self.hall, [6, 1, 3], boxes), [[10, 11], [], [17, 18, 19]])

    def test_what_was_filled_is_drawn(self):
        chance = random.Random(1)
        for turn in range(100):
            hall = chance_hall(chance, 4, 6, 3, (0, 0, 1, 2, 5))
            rooms = [belt[4] + chance.randrange(4) for belt in hall.belts()]
            pieces = chance_pieces(chance, hall)
            boxes = filled(hall, rooms, pieces)
            self.assertEqual(len(boxes), sum(rooms))
            self.assertEqual(drawn(hall, rooms, boxes), pieces)

    def test_no_room(self):
        for rooms in ([], [3, 2], [3, 2, 5, 1], [1, 2, 5], [3, -1, 5], [3, 2, 2], [0, 0, 0], [-3, 2, 5]):
            self.check_refused(NoRoom, filled, self.hall, rooms, self.pieces)
            self.check_refused(NoRoom, drawn, self.hall, rooms, [0] * 10)

    def test_no_pieces(self):
        for pieces in ([], self.pieces[:2], self.pieces + [[]], [[7], [], [1, 2, 3]], [[7, -8, 9], [], [1, 2, 3]],
                       [[7, -8], [0], [1, 2, 3]], [[7, -8], [], [1, 2]], [[], [7, -8], [1, 2, 3]]):
            self.check_refused(NoPieces, filled, self.hall, [3, 2, 5], pieces)
            self.check_refused(NoRoom, filled, self.hall, [1, 2, 5], pieces)
            self.check_refused(NoRoom, filled, self.hall, [3, 2], pieces)

    def test_what_is_handed_in_stays(self):
        rooms, boxes = [3, 2, 5], list(range(10))
        before = copy.deepcopy((told(self.hall), self.pieces))
        filled(self.hall, rooms, self.pieces)
        drawn(self.hall, rooms, boxes)
        self.check_refused(NoPieces, filled, self.hall, rooms, [])
        self.assertEqual((told(self.hall), self.pieces), before)
        self.assertEqual((rooms, boxes), ([3, 2, 5], list(range(10))))

    def test_told_lists_are_new(self):
        rooms, boxes = [3, 2, 5], list(range(10))
        lists = drawn(self.hall, rooms, boxes)
        lists[0][0] = 99
        lists[1].append(98)
        self.assertEqual(boxes, list(range(10)))
        self.assertEqual(drawn(self.hall, rooms, boxes), [[0, 1], [], [5, 6, 7]])
        lists = drawn(self.hall, rooms, boxes)
        boxes[0] = 55
        self.assertEqual(lists, [[0, 1], [], [5, 6, 7]])
        hall = hall_of(1, [(0, 0, 1, 1, 2)])
        pieces, boxes = [[1, 2]], [3, 4]
        made = filled(hall, [2], pieces)
        made[0] = 9
        self.assertEqual(pieces, [[1, 2]])
        pieces[0][1] = 8
        self.assertEqual(made, [9, 2])
        lists = drawn(hall, [2], boxes)
        lists[0][0] = 7
        self.assertEqual(boxes, [3, 4])


class TestRun(CodeCase):
    def test_no_rows(self):
        for boxes in ([], [1], [3, -4]):
            answer = run([], boxes)
            self.assertEqual(answer, boxes)
            self.assertIsNot(answer, boxes)

    def test_a_row(self):
        self.assertEqual(run([(1, 5, ())], [7, 8, 9]), [7, 5, 9])
        self.assertEqual(run([(0, -5, ((1, 2), (2, -1)))], [7, 8, 9]), [2, 8, 9])
        self.assertEqual(run([(2, 0, ((2, 3),))], [7, 8, 9]), [7, 8, 27])
        self.assertEqual(run([(0, 1, ((1, 2), (1, 3)))], [7, 8, 9]), [41, 8, 9])

    def test_rows_from_the_first_to_the_last(self):
        code = [(0, 0, ((1, 1),)), (1, 0, ((0, 2),)), (0, 1, ((1, 1),))]
        self.assertEqual(run(code, [1, 10]), [21, 20])
        self.assertEqual(run(code[::-1], [1, 10]), [22, 22])

    def test_long_numbers(self):
        self.assertEqual(run([(0, LONG, ((0, -LONG), (1, LONG)))], [LONG, -LONG]), [LONG - 2 * LONG ** 2, -LONG])

    def test_what_is_handed_in_stays(self):
        code, boxes = [(0, 1, ((1, 2),)), (1, 3, ())], [4, 5]
        answer = run(code, boxes)
        self.assertEqual((code, boxes), ([(0, 1, ((1, 2),)), (1, 3, ())], [4, 5]))
        answer[0] = 99
        self.assertEqual(boxes, [4, 5])
        self.assertEqual(run(code, boxes), [11, 3])

    def test_long_code(self):
        code = [(box % 10, 1, ((box % 10, 1),)) for box in range(3000)]
        self.assertEqual(run(code, [0] * 10), [300] * 10)


class TestCode(CodeCase):
    def test_two_works(self):
        hall = hall_of(2, [(0, 1, 2, 3, 1)])
        forms = [((10, ()), (20, ())), ()]
        # Six pieces a round, in the boxes 1, 2, 3, 0 and so on: behind two rounds twelve are given.
        laps, code = code_of(hall, [4], [0, 1, 0, 0, 1], forms)
        self.assertEqual(laps, 2)
        self.assertEqual(code, [(box, constant, ()) for box, constant in zip([1, 2, 3, 0] * 3, [10, 20] * 6)])
        self.assertEqual(code_of(hall, [6], [0, 0, 1, 0, 1], forms)[0], 1)
        self.assertEqual(code_of(hall, [5], [0, 0, 1, 0, 1], forms)[0], 5)
        self.assertEqual(code_of(hall, [12], [0, 0, 0, 1, 1], forms)[0], 2)
        self.assertEqual(code_of(hall, [9], [0, 0, 0, 1, 1], forms)[0], 3)

    def test_terms(self):
        hall = hall_of(2, [(0, 1, 1, 1, 0), (1, 0, 2, 2, 3)])
        forms = [((1, ((1, 5), (0, -1), (1, 6))),), ((0, ((0, 2),)), (7, ()))]
        laps, code = code_of(hall, [1, 3], [0, 1], forms)
        self.assertEqual(laps, 3)
        self.assertEqual(code, [
            (0, 1, ((2, 5), (1, -1), (2, 6))), (1, 0, ((0, 2),)), (2, 7, ()),
            (0, 1, ((1, 5), (3, -1), (1, 6))), (3, 0, ((0, 2),)), (1, 7, ()),
            (0, 1, ((3, 5), (2, -1), (3, 6))), (2, 0, ((0, 2),)), (3, 7, ()),
        ])

    def test_a_belt_to_itself(self):
        hall = hall_of(1, [(0, 0, 2, 2, 2)])
        forms = [((0, ((1, 1),)), (0, ((0, 1),)))]
        laps, code = code_of(hall, [4], [0], forms)
        self.assertEqual(laps, 2)
        self.assertEqual(code, [(2, 0, ((1, 1),)), (3, 0, ((0, 1),)), (0, 0, ((3, 1),)), (1, 0, ((2, 1),))])
        self.check_refused(NoFit, code_of, hall, [3], [0], forms)
        laps, code = code_of(hall, [5], [0], forms)
        self.assertEqual(laps, 5)
        self.assertEqual([row[0] for row in code], [2, 3, 4, 0, 1, 2, 3, 4, 0, 1])

    def test_no_rows(self):
        self.assertEqual(code_of(Hall(), [], [], []), (1, []))
        self.assertEqual(code_of(hall_of(3), [], [2, 0, 1], [(), (), ()]), (1, []))

    def test_the_kinds(self):
        hall = hall_of(2, [(0, 1, 1, 1, 1), (1, 0, 1, 1, 0)])
        answer = code_of(hall, [2, 1], [1, 0], [((1, ((0, 2),)),), ((3, ((0, 4), (0, 5))),)])
        self.assertIs(type(answer), tuple)
        self.assertIs(type(answer[1]), list)
        for row in answer[1]:
            self.assertEqual([type(part) for part in row], [int, int, tuple])
            self.assertEqual({type(term) for term in row[2]}, {tuple})

    def test_laps(self):
        for give, take, row, rooms in ((1, 1, [0, 1], range(1, 30)), (2, 1, [0, 1, 1], range(2, 30)),
                                       (3, 2, [0, 1, 0, 1, 1], range(4, 30))):
            hall = hall_of(2, [(0, 1, give, take, 0)])
            for room in rooms:
                laps = code_of(hall, [room], row, plain_forms(hall))[0]
                given = give * row.count(0)
                self.assertEqual(laps, min(rounds for rounds in range(1, 99) if rounds * given % room == 0))

    def test_laps_of_several_belts(self):
        hall = hall_of(2, [(0, 1, 1, 1, 0), (0, 1, 1, 1, 0), (0, 1, 1, 1, 0)])
        for rooms, laps in (([1, 1, 1], 1), ([2, 3, 1], 6), ([4, 6, 1], 12), ([4, 6, 10], 60), ([5, 5, 5], 5)):
            answer = code_of(hall, rooms, [0, 1], plain_forms(hall))
            self.assertEqual(answer[0], laps)
            self.assertEqual(len(answer[1]), 3 * laps)

    def test_code_of_any_kind(self):
        chance = random.Random(31)
        done = several = more = 0
        while done < 250:
            hall = chance_hall(chance, 4, 5, 3, (0, 0, 1, 2, 3, 6))
            first = round_of(hall)[0]
            if first is None:
                continue
            rooms = peaks(hall, first)
            if chance.randrange(3) == 0:
                rooms = lean_rooms(hall)[0]
            if chance.randrange(2) == 0:
                rooms = [room + chance.randrange(3) for room in rooms]
                more += 1
            row = chance_round(chance, hall, rooms)
            forms, pieces = chance_forms(chance, hall), chance_pieces(chance, hall)
            laps = plain_laps(hall, rooms, row)
            if laps * sum(row.count(belt[0]) * belt[2] for belt in hall.belts()) > 600:
                continue
            with self.subTest(belts=hall.belts(), rooms=rooms, row=row, forms=forms, pieces=pieces):
                answer = code_of(hall, rooms, row, forms)
                self.assertEqual(answer, plain_code(hall, rooms, row, forms))
                boxes = filled(hall, rooms, pieces)
                mill = Mill(hall, forms, pieces)
                for lap in range(3):
                    boxes = run(answer[1], boxes)
                    mill.go(row * laps)
                    self.assertEqual(drawn(hall, rooms, boxes), mill.lying())
            done += 1
            several += laps > 1
        self.assertGreater(several, 60)
        self.assertGreater(more, 60)

    def test_two_rounds_of_other_orders_leave_the_same_pieces(self):
        hall = hall_of(3, [(0, 1, 1, 2, 2), (0, 2, 2, 1, 0), (2, 0, 1, 2, 2)])
        rooms = [4, 4, 4]
        chance = random.Random(7)
        forms, pieces = chance_forms(chance, hall), chance_pieces(chance, hall)
        rounds = {tuple(chance_round(chance, hall, rooms)) for turn in range(50)}
        self.assertGreater(len(rounds), 2)
        left = set()
        for row in sorted(rounds):
            laps, code = code_of(hall, rooms, list(row), forms)
            left.add(repr((laps, drawn(hall, rooms, run(code, filled(hall, rooms, pieces))))))
        self.assertEqual(len(left), 1)

    def test_unfolded_rounds(self):
        hall = hall_of(3, [(0, 1, 2, 3, 0), (1, 2, 1, 2, 1)])
        joint = Joint(hall, [0, 1])
        row = joint.unfolded(round_of(joint.made())[0])
        rooms = peaks(hall, row)
        forms = [((1, ()), (2, ())), ((0, ((0, 1), (1, 10), (2, 100))),), ()]
        laps, code = code_of(hall, rooms, row, forms)
        mill = Mill(hall, forms, [[], [5]])
        mill.go(row * laps)
        self.assertEqual(drawn(hall, rooms, run(code, filled(hall, rooms, [[], [5]]))), mill.lying())

    def test_what_is_handed_in_stays(self):
        hall = hall_of(2, [(0, 1, 2, 3, 1)])
        rooms, row, forms = [4], [0, 1, 0, 0, 1], [((1, ()), (2, ())), ()]
        before = copy.deepcopy((told(hall), rooms, row, forms))
        answer = code_of(hall, rooms, row, forms)
        self.assertEqual((told(hall), rooms, row, forms), before)
        for refusal, part in ((NoForm, 3), (NoRoom, 1), (NoFit, 2)):
            wrong = [hall, rooms, row, forms]
            wrong[part] = []
            self.check_refused(refusal, code_of, *wrong)
        self.assertEqual((told(hall), rooms, row, forms), before)
        kept = copy.deepcopy(answer)
        rooms[0] = 9
        row.clear()
        forms[0] = ()
        hall.fill(0, 0)
        self.assertEqual(answer, kept)

    def test_told_lists_are_new(self):
        hall = hall_of(2, [(0, 1, 1, 1, 0)])
        answer = code_of(hall, [2], [0, 1], [((4, ()),), ()])
        kept = copy.deepcopy(answer)
        answer[1].append((0, 0, ()))
        answer[1][0] = None
        self.assertEqual(code_of(hall, [2], [0, 1], [((4, ()),), ()]), kept)


class TestRefused(CodeCase):
    def setUp(self):
        self.hall = hall_of(2, [(0, 1, 2, 3, 1)])
        self.forms = [((1, ()), (2, ())), ()]
        self.row = [0, 1, 0, 0, 1]

    def test_no_form(self):
        for forms in ([], [((1, ()), (2, ()))], self.forms + [()], [((1, ()),), ()], [((1, ()),) * 3, ()],
                      [((1, ()), (2, ())), ((0, ()),)], [((1, ((0, 1),)), (2, ())), ()],
                      [((1, ((-1, 1),)), (2, ())), ()]):
            self.check_refused(NoForm, code_of, self.hall, [4], self.row, forms)
        hall = hall_of(1, [(0, 0, 1, 2, 9), (0, 0, 1, 1, 9)])
        for slot in (3, 4, LONG, -1, -3):
            self.check_refused(NoForm, code_of, hall, [9, 9], [0], [((0, ()), (0, ((slot, 1),)))])

    def test_not_balanced(self):
        hall = hall_of(2, [(0, 1, 1, 1), (0, 1, 1, 2)])
        self.check_refused(NotBalanced, code_of, hall, [9, 9], [0, 1], plain_forms(hall))
        hall = hall_of(1, [(0, 0, 1, 2, 9)])
        self.check_refused(NotBalanced, code_of, hall, [9], [0], plain_forms(hall))

    def test_a_round_too_long(self):
        hall = hall_of(2, [(0, 1, 1, 400)])
        self.check_refused(TooLong, code_of, hall, [400], [0] * 400 + [1], plain_forms(hall))
        hall = hall_of(2, [(0, 1, 1, 399)])
        self.assertEqual(code_of(hall, [399], [0] * 399 + [1], plain_forms(hall)),
                         (1, [(box, 0, ()) for box in range(399)]))

    def test_no_room(self):
        for rooms in ([], [4, 4], [0], [-4]):
            self.check_refused(NoRoom, code_of, self.hall, rooms, self.row, self.forms)
        self.check_refused(NoRoom, code_of, hall_of(1), [1], [0], [()])
        self.check_refused(NoRoom, code_of, Hall(), [0], [], [])

    def test_no_fit(self):
        for row in ([], [0], [1], [0, 1, 0, 0], [0, 1, 0, 1], [0, 1, 0, 0, 1, 0], [0, 1, 0, 0, 1, 1],
                    [0, 1, 0, 0, 1, 0, 1, 0, 0, 1], [1, 0, 0, 0, 1], [0, 1, 1, 0, 0], [0, 0, 0, 1, 1],
                    [0, 1, 0, 0, 2], [0, 1, 0, 0, -1], [0, 1, 0, 0, 1, 2], [0, 1, 0, 0, 1, -1], [-2, -1, -2, -2, -1],
                    [LONG, 1, 0, 0, 1], [-LONG], [0, 1, 0, 0, 1] + [2] * 2995):
            self.check_refused(NoFit, code_of, self.hall, [4], row, self.forms)
        for number in NO_NUMBERS:
            self.check_refused(NoFit, code_of, self.hall, [4], [0, 1, 0, 0, number], self.forms)
            self.check_refused(NoFit, code_of, self.hall, [4], self.row + [number], self.forms)
        for row in ([0], [1], [-1]):
            self.check_refused(NoFit, code_of, Hall(), [], row, [])
        for row in ([], [0], [0, 0], [0, 1, 1], [0, 1, 2], [0, -1]):
            self.check_refused(NoFit, code_of, hall_of(2), [], row, [(), ()])

    def test_rooms_too_small(self):
        for row in ([0, 0, 0, 1, 1], [0, 0, 1, 0, 1], [0, 1, 0, 0, 1]):
            room = peaks(self.hall, row)[0]
            self.assertEqual(len(code_of(self.hall, [room], row, self.forms)), 2)
            for less in range(1, room):
                self.check_refused(NoFit, code_of, self.hall, [less], row, self.forms)
        hall = hall_of(2, [(0, 1, 1, 1, 0)])
        self.check_refused(NoFit, code_of, hall, [0], [0, 1], plain_forms(hall))

    def test_rows_of_any_kind(self):
        chance = random.Random(32)
        found = {True: 0, False: 0}
        for turn in range(600):
            hall = chance_hall(chance, 3, 3, 2, (0, 1, 2, 3))
            first = round_of(hall)[0]
            if first is None:
                continue
            row = list(first)
            chance.shuffle(row)
            if chance.randrange(4) == 0:
                row[chance.randrange(len(row))] = chance.randrange(len(hall.names()))
            rooms = [max(belt[4], room - chance.randrange(2)) for belt, room in zip(hall.belts(), peaks(hall, first))]
            expected = is_round_within(hall, rooms, row)
            found[expected] += 1
            with self.subTest(belts=hall.belts(), rooms=rooms, row=row):
                if expected:
                    self.assertEqual(code_of(hall, rooms, row, plain_forms(hall)),
                                     plain_code(hall, rooms, row, plain_forms(hall)))
                else:
                    self.check_refused(NoFit, code_of, hall, rooms, row, plain_forms(hall))
        self.assertGreater(min(found.values()), 50)

    def test_a_round_where_the_hall_has_none(self):
        hall = hall_of(2, [(0, 1, 1, 1), (1, 0, 1, 1)])
        self.check_refused(NoFit, code_of, hall, [5, 5], [0, 1], plain_forms(hall))

    def test_most_rows(self):
        self.assertEqual(MOST_ROWS, 3000)
        for give, room, rows in ((3000, 3000, 3000), (1500, 3000, 3000), (1000, 3000, 3000), (100, 3000, 3000),
                                 (1, 3000, 3000), (2, 3000, 3000), (7, 2996, 2996), (2999, 2999, 2999)):
            hall = hall_of(2, [(0, 1, give, give, 0)])
            laps, code = code_of(hall, [room], [0, 1], plain_forms(hall))
            self.assertEqual((laps, len(code)), (rows // give, rows))
        for give, room in ((3001, 3001), (1, 3001), (3000, 3001), (1501, 3002), (2, 3002), (7, 3003), (1500, 4500)):
            hall = hall_of(2, [(0, 1, give, give, 0)])
            self.check_refused(TooLong, code_of, hall, [room], [0, 1], plain_forms(hall))

    def test_most_rows_on_several_belts(self):
        hall = hall_of(2, [(0, 1, 1, 1, 0), (0, 1, 1, 1, 0)])
        for rooms, laps in (([1500, 1], 1500), ([750, 4], 1500), ([500, 3], 1500), ([300, 250], 1500)):
            answer = code_of(hall, rooms, [0, 1], plain_forms(hall))
            self.assertEqual((answer[0], len(answer[1])), (laps, 3000))
        for rooms in ([1501, 1], [1, 1501], [40, 39], [1000, 3], [1499, 2]):
            self.check_refused(TooLong, code_of, hall, rooms, [0, 1], plain_forms(hall))

    def test_rates_count_for_the_rows(self):
        hall = hall_of(2, [(0, 1, 3, 300, 0)])
        row = [0] * 100 + [1]
        self.assertEqual(len(code_of(hall, [3000], row, plain_forms(hall))[1]), 3000)
        self.assertEqual(len(code_of(hall, [900], row, plain_forms(hall))[1]), 900)
        self.check_refused(TooLong, code_of, hall, [301], row, plain_forms(hall))

    def test_of_two_the_first(self):
        unbalanced = hall_of(2, [(0, 1, 1, 1), (0, 1, 1, 2)])
        long = hall_of(2, [(0, 1, 1, 400)])
        # More rows than there may be, and rates.
        wide = hall_of(2, [(0, 1, 2, 2, 1)])
        wrong_forms = [(), (), ()]
        for hall, rooms, row in ((unbalanced, [9, 9], [0, 1]), (long, [400], [0] * 400 + [1]), (wide, [], [0, 1]),
                                 (wide, [9], [0]), (wide, [3001], [0, 1])):
            self.check_refused(NoForm, code_of, hall, rooms, row, wrong_forms)
        for rooms, row in (([], [0, 1]), ([9, 9], [5]), ([], [5]), ([3001, 3001], [0, 1])):
            self.check_refused(NotBalanced, code_of, unbalanced, rooms, row, plain_forms(unbalanced))
        for rooms, row in (([], [0] * 400 + [1]), ([400], [5]), ([], [5]), ([0], [0] * 400 + [1])):
            self.check_refused(TooLong, code_of, long, rooms, row, plain_forms(long))
        # Out of balance and with great numbers: the rates are asked ahead of how long a round is.
        both = hall_of(2, [(0, 1, 1, 400), (0, 1, 1, 401)])
        self.check_refused(NotBalanced, code_of, both, [9, 9], [0, 1], plain_forms(both))
        for rooms, row in (([0], [5]), ([], [0]), ([3001, 1], [0, 1]), ([0], [1, 1])):
            self.check_refused(NoRoom, code_of, wide, rooms, row, plain_forms(wide))
        for rooms, row in (([3001], [1, 0]), ([3001], [0]), ([3001], [0, 1, 2]), ([LONG], [-1, 0])):
            self.check_refused(NoFit, code_of, wide, rooms, row, plain_forms(wide))
        self.check_refused(TooLong, code_of, wide, [3001], [0, 1], plain_forms(wide))
        self.check_refused(TooLong, code_of, wide, [LONG], [0, 1], plain_forms(wide))


class TestTheWhole(CodeCase):
    def test_lean_rooms_and_their_rounds(self):
        chance = random.Random(33)
        done = 0
        while done < 60:
            hall = chance_hall(chance, 5, 6, 3, (0, 1, 2, 4, 8))
            try:
                rooms = lean_rooms(hall)[0]
                row = fitting(hall, rooms)[0]
                forms, pieces = chance_forms(chance, hall), chance_pieces(chance, hall)
                laps, code = code_of(hall, rooms, row, forms)
            except RateError:
                continue
            mill, boxes = Mill(hall, forms, pieces), filled(hall, rooms, pieces)
            for lap in range(2):
                mill.go(row * laps)
                boxes = run(code, boxes)
                self.assertEqual(drawn(hall, rooms, boxes), mill.lying())
            done += 1

    def test_figures_as_many_as_there_need_be(self):
        # Each turn squares nothing, but multiplies by thirty figures: what is told grows and is told in full.
        hall = hall_of(1, [(0, 0, 1, 1, 1)])
        laps, code = code_of(hall, [2], [0], [((1, ((0, LONG),)),)])
        self.assertEqual((laps, len(code)), (2, 2))
        boxes, value = filled(hall, [2], [[-LONG]]), -LONG
        for lap in range(40):
            boxes = run(code, boxes)
            for turn in range(2):
                value = value * LONG + 1
        self.assertEqual(drawn(hall, [2], boxes), [[value]])
        self.assertLess(value, -10 ** 2400)


if __name__ == "__main__":
    unittest.main()
