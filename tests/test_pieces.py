import random
import unittest
from string import ascii_lowercase

from ratehall.hall import MOST_BELTS, Hall
from ratehall.pieces import pieces_of


def hall_of(works, belts=()):
    """A hall of so many works; belts are laid, so that there may be as many as a backed hall has."""
    hall = Hall()
    for number in range(works):
        hall.work(ascii_lowercase[number // 26] + ascii_lowercase[number % 26])
    for giver, taker in belts:
        hall.lay((giver, taker, 1, 1, 0))
    return hall


def pieces_by_painting(works, belts):
    """Each work bears a colour; a belt paints both its sides alike."""
    colours = list(range(works))
    for giver, taker in belts:
        old, new = colours[giver], colours[taker]
        colours = [new if colour == old else colour for colour in colours]
    pieces = {}
    for work, colour in enumerate(colours):
        pieces.setdefault(colour, []).append(work)
    return sorted(pieces.values())


class TestPieces(unittest.TestCase):
    def check(self, works, belts, expected):
        hall = hall_of(works, belts)
        before = (hall.names(), hall.belts())
        told = pieces_of(hall)
        self.assertIs(type(told), list)
        for piece in told:
            self.assertIs(type(piece), list)
        self.assertEqual(told, expected)
        self.assertEqual((hall.names(), hall.belts()), before)

    def test_no_works(self):
        self.check(0, [], [])

    def test_works_without_belts(self):
        self.check(1, [], [[0]])
        self.check(3, [], [[0], [1], [2]])
        self.check(30, [], [[work] for work in range(30)])

    def test_belts_from_works_to_themselves(self):
        self.check(1, [(0, 0)], [[0]])
        self.check(3, [(2, 2), (0, 0), (0, 0)], [[0], [1], [2]])

    def test_along_and_against(self):
        self.check(3, [(0, 1), (1, 2)], [[0, 1, 2]])
        self.check(3, [(2, 1), (1, 0)], [[0, 1, 2]])
        self.check(3, [(0, 1), (2, 1)], [[0, 1, 2]])
        self.check(3, [(1, 0), (1, 2)], [[0, 1, 2]])
        self.check(3, [(0, 2), (1, 2)], [[0, 1, 2]])

    def test_several_pieces(self):
        self.check(4, [(0, 1), (2, 3)], [[0, 1], [2, 3]])
        self.check(4, [(3, 0), (2, 1)], [[0, 3], [1, 2]])
        self.check(5, [(4, 2), (1, 3)], [[0], [1, 3], [2, 4]])
        self.check(6, [(5, 0), (3, 5), (4, 1)], [[0, 3, 5], [1, 4], [2]])

    def test_several_belts_between_the_same_works(self):
        self.check(3, [(0, 2), (2, 0), (0, 2)], [[0, 2], [1]])

    def test_rings(self):
        self.check(4, [(0, 1), (1, 3), (3, 0)], [[0, 1, 3], [2]])

    def test_two_parts_joined_by_the_last_belt(self):
        self.check(6, [(0, 1), (1, 2), (3, 4), (4, 5)], [[0, 1, 2], [3, 4, 5]])
        self.check(6, [(0, 1), (1, 2), (3, 4), (4, 5), (5, 2)], [[0, 1, 2, 3, 4, 5]])

    def test_a_long_row_from_its_end_on(self):
        row = [(work, work + 1) for work in range(29)]
        turned = [(taker, giver) for giver, taker in row]
        mixed = [belt if number % 2 else belt[::-1] for number, belt in enumerate(row)]
        for belts in (row, turned, mixed):
            self.check(30, belts, [list(range(30))])
            self.check(30, belts[::-1], [list(range(30))])
            self.check(30, belts[::2] + belts[1::2], [list(range(30))])

    def test_a_long_row_that_is_cut(self):
        belts = [(work, work + 1) for work in range(28, -1, -1) if work != 14]
        self.check(30, belts, [list(range(15)), list(range(15, 30))])

    def test_each_list_rises_however_one_comes_there(self):
        self.check(5, [(0, 4), (4, 2), (2, 3), (3, 1)], [[0, 1, 2, 3, 4]])

    def test_halls_of_any_kind(self):
        chance = random.Random(8)
        for turn in range(400):
            works = chance.randrange(1, 31)
            belts = [(chance.randrange(works), chance.randrange(works)) for belt in range(chance.randrange(works + 1))]
            with self.subTest(works=works, belts=belts):
                self.check(works, belts, pieces_by_painting(works, belts))

    def test_as_many_belts_as_a_backed_hall_has(self):
        belts = [(work, work + 2) for work in range(28)]
        belts += [(taker, giver) for giver, taker in belts]
        belts += [(0, 0)] * (2 * MOST_BELTS - 1 - len(belts))
        even, odd = list(range(0, 30, 2)), list(range(1, 30, 2))
        self.check(30, belts, [even, odd])
        self.check(30, belts + [(29, 28)], [list(range(30))])

    def test_lists_that_were_told_are_the_askers_own(self):
        hall = hall_of(4, [(0, 1), (3, 2)])
        told = pieces_of(hall)
        told[0].append(9)
        told[1][0] = 8
        told.append([7])
        self.assertEqual(pieces_of(hall), [[0, 1], [2, 3]])
        self.assertEqual(hall.belts(), [(0, 1, 1, 1, 0), (3, 2, 1, 1, 0)])

    def test_lists_that_were_told_stay(self):
        hall = hall_of(3, [(0, 1)])
        told = pieces_of(hall)
        hall.belt(2, 1, 1, 1)
        hall.work("more")
        self.assertEqual(told, [[0, 1], [2]])
        self.assertEqual(pieces_of(hall), [[0, 1, 2], [3]])


if __name__ == "__main__":
    unittest.main()
