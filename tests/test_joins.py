import random
import unittest
from itertools import permutations
from math import gcd
from string import ascii_lowercase

from ratehall.errors import NotBalanced, NoWork, Stuck, TooLong, Twice
from ratehall.floor import Floor
from ratehall.hall import MOST_BELTS, Hall
from ratehall.joins import Joint
from ratehall.rates import rates_of
from ratehall.rooms import backed
from ratehall.rounds import round_of

LONG = 10 ** 30 - 1
NO_NUMBERS = (None, "0", "a", [0], (0,), True, False)
NOT_BALANCED = [(0, 1, 1, 1), (0, 1, 1, 2)]


def hall_of(works, belts=()):
    """A hall of so many works; belts are laid, so that there may be as many as a backed hall has."""
    hall = Hall()
    for number in range(works):
        hall.work(ascii_lowercase[number // 26] + ascii_lowercase[number % 26])
    for belt in belts:
        hall.lay(tuple(belt) + (0,) * (5 - len(belt)))
    return hall


def chance_hall(chance, most_works, most_belts, most_rate, starts):
    """Belts that fit rates drawn ahead."""
    works = chance.randrange(1, most_works + 1)
    rates = [chance.randrange(1, most_rate + 1) for work in range(works)]
    rows = []
    for belt in range(chance.randrange(most_belts + 1)):
        giver, taker = chance.randrange(works), chance.randrange(works)
        common, often = gcd(rates[giver], rates[taker]), chance.randrange(1, 3)
        rows.append((giver, taker, rates[taker] // common * often, rates[giver] // common * often, chance.choice(starts)))
    return hall_of(works, rows)


def told(hall):
    return (hall.names(), hall.belts())


def all_told(joint):
    works = range(len(joint.made().names()))
    return (told(joint.made()), joint.place(), joint.inner(), joint.unfolded(list(works)))


def plain_turns(hall, group):
    rates = rates_of(hall)[0]
    common = gcd(*[rates[member] for member in group])
    return {member: rates[member] // common for member in sorted(group)}


def plain_inner_row(hall, group):
    """The row of the least ready members with turns left, and None where it ends too early."""
    left = plain_turns(hall, group)
    belts = [row for row in hall.belts() if row[0] in left and row[1] in left]
    lying = [row[4] for row in belts]
    row = []
    while True:
        free = [member for member in left if left[member] > 0 and all(
            belt[1] != member or lies >= belt[3] for belt, lies in zip(belts, lying))]
        if not free:
            return row if sum(left.values()) == 0 else None
        member = min(free)
        row.append(member)
        left[member] -= 1
        lying = [lies + (belt[2] if belt[0] == member else 0) - (belt[3] if belt[1] == member else 0)
                 for belt, lies in zip(belts, lying)]


def plain_joined(hall, group):
    """The names and belts of the joined hall, with the joined work's name, found by the names of the works."""
    names, turns = hall.names(), plain_turns(hall, group)
    kept = [name for number, name in enumerate(names) if number not in turns or number == min(turns)]
    belts = []
    for giver, taker, give, take, start in hall.belts():
        if giver in turns and taker in turns:
            continue
        if giver in turns:
            giver, give = min(turns), give * turns[giver]
        if taker in turns:
            taker, take = min(turns), take * turns[taker]
        belts.append((kept.index(names[giver]), kept.index(names[taker]), give, take, start))
    return (kept, belts), kept.index(names[min(turns)])


class JointCase(unittest.TestCase):
    def check_refused(self, refusal, hall, group):
        before = (told(hall), list(group))
        with self.subTest(belts=hall.belts(), group=group):
            with self.assertRaises(refusal) as refused:
                Joint(hall, group)
            self.assertIs(type(refused.exception), refusal)
            self.assertEqual((told(hall), group), before)

    def check_joint(self, hall, group, names=None, belts=None, place=None, inner=None):
        before = (told(hall), list(group))
        joint = Joint(hall, group)
        made = joint.made()
        self.assertIs(type(made), Hall)
        self.assertIs(type(joint.place()), int)
        self.assertIs(type(joint.inner()), list)
        expected, expected_place = plain_joined(hall, group)
        self.assertEqual(told(made), expected)
        self.assertEqual(joint.place(), expected_place)
        self.assertEqual(joint.inner(), plain_inner_row(hall, group))
        self.check_rates(hall, group, made, joint.place())
        self.check_unfolded(hall, group, joint)
        if names is not None:
            self.assertEqual(made.names(), names)
        if belts is not None:
            self.assertEqual(made.belts(), belts)
        if place is not None:
            self.assertEqual(joint.place(), place)
        if inner is not None:
            self.assertEqual(joint.inner(), inner)
        self.assertEqual((told(hall), group), before)
        return joint

    def check_rates(self, hall, group, made, place):
        rates = rates_of(hall)[0]
        expected = [rate for work, rate in enumerate(rates) if work not in group]
        expected.insert(place, gcd(*[rates[member] for member in group]))
        self.assertEqual(rates_of(made), (expected, None))

    def check_unfolded(self, hall, group, joint):
        made = joint.made()
        others = [work for work in range(len(hall.names())) if work not in group]
        rows = [[other] for other in others]
        rows.insert(joint.place(), joint.inner())
        for work, row in enumerate(rows):
            self.assertEqual(joint.unfolded([work]), row)
        row, stop = round_of(made)
        if row is None:
            return
        unfolded = joint.unfolded(row)
        self.assertIs(type(unfolded), list)
        self.assertEqual([unfolded.count(work) for work in range(len(hall.names()))], rates_of(hall)[0])
        floor = Floor(hall)
        floor.go(unfolded)
        self.assertEqual(floor.lying(), Floor(hall).lying())
        self.assertIsNotNone(round_of(hall)[0])


class TestJoint(JointCase):
    def test_two_of_three(self):
        hall = hall_of(3, [(0, 1, 2, 3), (1, 2, 1, 2, 1)])
        self.assertEqual(rates_of(hall)[0], [3, 2, 1])
        self.check_joint(hall, [0, 1], ["aa", "ac"], [(0, 1, 2, 2, 1)], 0, [0, 0, 0, 1, 1])
        self.check_joint(hall, [1, 2], ["aa", "ab"], [(0, 1, 2, 6, 0)], 1, [1, 1, 2])
        self.check_joint(hall, [0, 2], ["aa", "ab"], [(0, 1, 6, 3, 0), (1, 0, 1, 2, 1)], 0, [0, 0, 0, 2])

    def test_the_divisor_of_the_members(self):
        hall = hall_of(4, [(0, 1, 1, 4), (1, 2, 2, 4), (2, 3, 1, 6), (0, 3, 3, 144, 7)])
        self.assertEqual(rates_of(hall)[0], [48, 12, 6, 1])
        self.check_joint(hall, [1, 2], ["aa", "ab", "ad"], [(0, 1, 1, 8, 0), (1, 2, 1, 6, 0), (0, 2, 3, 144, 7)], 1,
                         [1, 1, 2])
        self.check_joint(hall, [0, 2], ["aa", "ab", "ad"],
                         [(0, 1, 8, 4, 0), (1, 0, 2, 4, 0), (0, 2, 1, 6, 0), (0, 2, 24, 144, 7)], 0, [0] * 8 + [2])

    def test_a_group_of_one(self):
        hall = hall_of(3, [(0, 1, 2, 3), (1, 1, 5, 5, 5), (1, 2, 1, 2)])
        self.check_joint(hall, [0], ["aa", "ab", "ac"], hall.belts(), 0, [0])
        self.check_joint(hall, [1], ["aa", "ab", "ac"], [(0, 1, 2, 3, 0), (1, 2, 1, 2, 0)], 1, [1])
        self.check_joint(hall, [2], ["aa", "ab", "ac"], hall.belts(), 2, [2])
        self.check_joint(hall_of(1), [0], ["aa"], [], 0, [0])

    def test_a_group_of_all(self):
        hall = hall_of(3, [(0, 1, 2, 3), (1, 2, 1, 2), (2, 2, 1, 1, 1)])
        self.check_joint(hall, [0, 1, 2], ["aa"], [], 0, [0, 0, 0, 1, 1, 2])
        self.check_joint(hall, [2, 0, 1], ["aa"], [], 0, [0, 0, 0, 1, 1, 2])

    def test_groups_in_any_order(self):
        hall = hall_of(4, [(3, 1, 2, 1), (1, 0, 1, 2), (0, 2, 3, 1, 5)])
        expected = all_told(self.check_joint(hall, [0, 1, 3]))
        for group in permutations([0, 1, 3]):
            self.assertEqual(all_told(self.check_joint(hall, list(group))), expected)
        self.assertEqual(expected, ((["aa", "ac"], [(0, 1, 3, 1, 5)]), 0, [3, 1, 1, 0], [3, 1, 1, 0, 2]))

    def test_the_place_is_that_of_the_least_member(self):
        hall = hall_of(5, [(work, work + 1, 1, 1) for work in range(4)])
        self.check_joint(hall, [3, 2], ["aa", "ab", "ac", "ae"], None, 2, [2, 3])
        self.check_joint(hall, [4, 1], ["aa", "ab", "ac", "ad"], [(0, 1, 1, 1, 0), (1, 2, 1, 1, 0), (2, 3, 1, 1, 0),
                                                                  (3, 1, 1, 1, 0)], 1, [1, 4])
        self.check_joint(hall, [4], None, None, 4, [4])

    def test_belts_from_a_member_to_itself_are_inner(self):
        hall = hall_of(2, [(0, 0, 2, 2, 2), (0, 1, 1, 1), (1, 1, 3, 3, 3)])
        self.check_joint(hall, [0], None, [(0, 1, 1, 1, 0), (1, 1, 3, 3, 3)], 0, [0])
        self.check_joint(hall, [0, 1], ["aa"], [], 0, [0, 1])
        hall.fill(0, 1)
        self.check_refused(Stuck, hall, [0])
        self.check_refused(Stuck, hall, [0, 1])
        self.check_joint(hall, [1])

    def test_several_belts_between_the_same_works(self):
        hall = hall_of(3, [(0, 1, 2, 4, 4), (1, 0, 2, 1, 1), (0, 2, 1, 2), (0, 1, 3, 6, 5), (2, 1, 1, 1, 9), (1, 2, 1, 1)])
        self.assertEqual(rates_of(hall)[0], [2, 1, 1])
        self.check_joint(hall, [0, 1], ["aa", "ac"], [(0, 1, 2, 2, 0), (1, 0, 1, 1, 9), (0, 1, 1, 1, 0)], 0, [0, 1, 0])

    def test_inner_belts_alone_count_for_the_inner_row(self):
        # Belt 1 leads to a member from outside and is empty; the inner row does not hang on it.
        hall = hall_of(3, [(0, 1, 1, 1), (2, 0, 1, 1), (1, 2, 1, 1)])
        self.assertIsNotNone(round_of(hall)[1])
        self.check_joint(hall, [0, 1], ["aa", "ac"], [(1, 0, 1, 1, 0), (0, 1, 1, 1, 0)], 0, [0, 1])

    def test_members_of_several_pieces(self):
        hall = hall_of(5, [(0, 1, 2, 1), (2, 3, 3, 1)])
        self.assertEqual(rates_of(hall)[0], [1, 2, 1, 3, 1])
        self.check_joint(hall, [1, 3], ["aa", "ab", "ac", "ae"], [(0, 1, 2, 2, 0), (2, 1, 3, 3, 0)], 1, [1, 1, 3, 3, 3])
        self.check_joint(hall, [1, 4], ["aa", "ab", "ac", "ad"], [(0, 1, 2, 2, 0), (2, 3, 3, 1, 0)], 1, [1, 1, 4])

    def test_members_that_no_inner_belts_hold_together(self):
        # The works' own inner rates would be 1 each, but in a turn of the group one turns twice.
        hall = hall_of(3, [(0, 1, 1, 2), (1, 2, 2, 4)])
        self.assertEqual(rates_of(hall)[0], [4, 2, 1])
        self.check_joint(hall, [0, 2], ["aa", "ab"], [(0, 1, 4, 2, 0), (1, 0, 2, 4, 0)], 0, [0, 0, 0, 0, 2])

    def test_the_joined_hall_may_have_no_round(self):
        hall = hall_of(3, [(0, 1, 1, 1), (1, 2, 1, 1)])
        joint = self.check_joint(hall, [0, 2])
        self.assertIsNotNone(round_of(hall)[0])
        self.assertIsNone(round_of(joint.made())[0])

    def test_names_stay(self):
        hall = Hall()
        for name in ("saw", "press", "drill"):
            hall.work(name)
        hall.belt(0, 1, 1, 1)
        hall.belt(1, 2, 2, 1)
        self.check_joint(hall, [2, 1], ["saw", "press"], [(0, 1, 1, 1, 0)], 1, [1, 2, 2])

    def test_thirty_works_and_sixty_belts(self):
        belts = [(work, (work + 1) % 30, 1, 1, 1) for work in range(30)] * 2
        hall = hall_of(30, belts)
        joint = self.check_joint(hall, list(range(29, 9, -1)))
        self.assertEqual((joint.place(), len(joint.made().names()), len(joint.made().belts())), (10, 11, 22))
        self.check_joint(hall, list(range(30)), ["aa"], [], 0, list(range(30)))

    def test_large_numbers(self):
        hall = hall_of(3, [(0, 1, 2 * 10 ** 29, 3 * 10 ** 29, LONG), (1, 2, LONG, 2 * LONG, 1)])
        self.check_joint(hall, [0, 1], None, [(0, 1, 2 * LONG, 2 * LONG, 1)], 0, [0, 0, 0, 1, 1])

    def test_four_hundred_turns(self):
        self.check_joint(hall_of(2, [(0, 1, 1, 399)]), [0, 1], ["aa"], [], 0, [0] * 399 + [1])

    def test_backed_halls(self):
        hall = hall_of(3, [(0, 1, 2, 3), (1, 2, 1, 2)])
        self.check_joint(backed(hall, [4, 2]), [0, 1], ["aa", "ac"], [(0, 1, 2, 2, 0), (1, 0, 2, 2, 2)], 0,
                         [0, 0, 1, 0, 1])
        self.check_refused(Stuck, backed(hall, [3, 2]), [0, 1])
        many = backed(hall_of(2, [(0, 1, 1, 2)] * MOST_BELTS), [9] * MOST_BELTS)
        self.check_joint(many, [1], None, many.belts(), 1, [1])

    def test_halls_and_groups_of_any_kind(self):
        chance = random.Random(24)
        joints = 0
        rounds = 0
        stuck = 0
        for turn in range(1500):
            hall = chance_hall(chance, 6, 7, 4, (0, 0, 1, 2, 3, 5, 8))
            works = len(hall.names())
            group = chance.sample(range(works), chance.randrange(1, works + 1))
            if plain_inner_row(hall, group) is None:
                self.check_refused(Stuck, hall, group)
                stuck += 1
                continue
            with self.subTest(belts=hall.belts(), group=group):
                joint = self.check_joint(hall, group)
                rounds += len(group) > 1 and round_of(joint.made())[0] is not None
            joints += 1
        self.assertGreater(joints, 500)
        self.assertGreater(rounds, 200)
        self.assertGreater(stuck, 200)


class TestUnfolded(JointCase):
    def setUp(self):
        self.hall = hall_of(4, [(1, 3, 2, 1), (0, 1, 1, 1), (3, 2, 1, 2)])
        self.joint = Joint(self.hall, [3, 1])
        self.before = all_told(self.joint)

    def test_rows(self):
        self.assertEqual(self.joint.inner(), [1, 3, 3])
        self.assertEqual(self.joint.place(), 1)
        self.assertEqual(self.joint.unfolded([]), [])
        self.assertEqual(self.joint.unfolded([0, 1, 2]), [0, 1, 3, 3, 2])
        self.assertEqual(self.joint.unfolded([1, 1, 0]), [1, 3, 3, 1, 3, 3, 0])
        self.assertEqual(self.joint.unfolded([2, 2, 0, 0]), [2, 2, 0, 0])

    def test_rows_that_no_floor_does(self):
        self.assertEqual(self.joint.unfolded([1]), [1, 3, 3])
        self.assertIs(Floor(self.joint.made()).ready(1), False)

    def test_long_rows(self):
        self.assertEqual(self.joint.unfolded([0, 1, 2] * 1000), [0, 1, 3, 3, 2] * 1000)

    def test_no_work(self):
        for number in (-1, -3, 3, 4, 30, LONG, -LONG) + NO_NUMBERS:
            for row in ([number], [0, 1, number], [number, 0]):
                copy = list(row)
                with self.subTest(row=row):
                    with self.assertRaises(NoWork) as refused:
                        self.joint.unfolded(row)
                    self.assertIs(type(refused.exception), NoWork)
                    self.assertEqual(row, copy)
                    self.assertEqual(all_told(self.joint), self.before)

    def test_the_row_stands_by_itself(self):
        row = [0, 1]
        unfolded = self.joint.unfolded(row)
        self.assertEqual(row, [0, 1])
        row.clear()
        self.assertEqual(unfolded, [0, 1, 3, 3])


class TestRefusals(JointCase):
    def test_no_work(self):
        hall = hall_of(3, [(0, 1, 1, 1), (1, 2, 1, 1)])
        for group in ([], [3], [-1], [0, 3], [-1, 0], [0, 1, 2, 3], [LONG], [-LONG]):
            self.check_refused(NoWork, hall, group)
        for thing in NO_NUMBERS:
            self.check_refused(NoWork, hall, [thing])
            self.check_refused(NoWork, hall, [0, thing])
        self.check_refused(NoWork, Hall(), [])
        self.check_refused(NoWork, Hall(), [0])

    def test_twice(self):
        hall = hall_of(3, [(0, 1, 1, 1), (1, 2, 1, 1)])
        for group in ([0, 0], [2, 1, 2], [0, 1, 2, 0], [1] * 100):
            self.check_refused(Twice, hall, group)

    def test_not_balanced(self):
        hall = hall_of(3, NOT_BALANCED)
        for group in ([0], [1], [2], [0, 1], [0, 1, 2]):
            self.check_refused(NotBalanced, hall, group)

    def test_too_long(self):
        hall = hall_of(3, [(0, 1, 1, 399)])
        self.assertEqual(sum(rates_of(hall)[0]), 401)
        for group in ([0], [2], [0, 1], [0, 1, 2]):
            self.check_refused(TooLong, hall, group)
        self.check_refused(TooLong, hall_of(2, [(0, 1, 2 ** 99, 3 ** 62)]), [0])

    def test_stuck(self):
        hall = hall_of(3, [(0, 1, 1, 1), (1, 0, 1, 1), (1, 2, 1, 1)])
        self.check_refused(Stuck, hall, [0, 1])
        self.check_refused(Stuck, hall, [2, 1, 0])
        self.check_joint(hall, [1, 2])
        self.check_joint(hall, [0])
        hall.fill(0, 1)
        self.check_joint(hall, [0, 1], None, [(0, 1, 1, 1, 0)], 0, [1, 0])
        hall = hall_of(2, [(0, 1, 2, 3), (1, 0, 3, 2, 3)])
        self.check_refused(Stuck, hall, [0, 1])
        hall.fill(1, 4)
        self.check_joint(hall, [0, 1], None, [], 0, [0, 0, 1, 0, 1])

    def test_of_two_that_are_due_the_first_one(self):
        # Stuck in works 0 and 1, without rates by works 2 and 3, too long by work 4.
        stuck = [(0, 1, 1, 1), (1, 0, 1, 1)]
        no_rates = [(2, 3, 1, 1), (2, 3, 1, 2)]
        too_long = [(4, 0, 1, 500)]
        everything = hall_of(5, stuck + no_rates + too_long)
        for group in ([], [5], [0, 0, 5], [5, 5], [0, 1, -1]):
            self.check_refused(NoWork, everything, group)
            self.check_refused(NoWork, hall_of(5, stuck), group)
        for group in ([0, 0], [0, 1, 0, 1], [2, 2]):
            self.check_refused(Twice, everything, group)
            self.check_refused(Twice, hall_of(5, too_long), group)
            self.check_refused(Twice, hall_of(5, stuck), group)
        self.check_refused(NotBalanced, everything, [0, 1])
        self.check_refused(NotBalanced, hall_of(5, stuck + no_rates), [0, 1])
        self.check_refused(NotBalanced, hall_of(5, no_rates + too_long), [0])
        self.check_refused(TooLong, hall_of(5, stuck + too_long), [0, 1])
        self.check_refused(Stuck, hall_of(5, stuck), [0, 1])


class TestKept(JointCase):
    def test_what_is_done_to_the_hall_later(self):
        hall = hall_of(4, [(1, 3, 2, 1), (0, 1, 1, 1), (3, 2, 1, 2)])
        joint = Joint(hall, [3, 1])
        before = all_told(joint)
        hall.fill(0, 9)
        hall.fill(1, 9)
        self.assertEqual(all_told(joint), before)
        hall.belt(0, 2, 1, 1)
        hall.work("more")
        hall.belt(4, 1, 7, 7)
        self.assertEqual(all_told(joint), before)
        with self.assertRaises(NoWork):
            joint.unfolded([3])
        self.assertEqual(Joint(hall, [3, 1]).made().names(), ["aa", "ab", "ac", "more"])

    def test_what_is_done_to_the_group_later(self):
        hall = hall_of(4, [(1, 3, 2, 1), (0, 1, 1, 1), (3, 2, 1, 2)])
        group = [3, 1]
        joint = Joint(hall, group)
        before = all_told(joint)
        self.assertEqual(group, [3, 1])
        group.append(0)
        group[0] = 2
        self.assertEqual(all_told(joint), before)
        group.clear()
        self.assertEqual(all_told(joint), before)

    def test_what_is_done_to_the_joined_hall(self):
        hall = hall_of(4, [(1, 3, 2, 1), (0, 1, 1, 1), (3, 2, 1, 2)])
        joint = Joint(hall, [3, 1])
        before = (all_told(joint), told(hall))
        made = joint.made()
        made.fill(0, 7)
        made.work("more")
        made.belt(3, 0, 1, 1)
        self.assertEqual((all_told(joint), told(hall)), before)
        other = joint.made()
        made.fill(1, 7)
        self.assertEqual(told(other), before[0][0])
        with self.assertRaises(NoWork):
            joint.unfolded([3])

    def test_lists_that_were_told_are_the_askers_own(self):
        joint = Joint(hall_of(4, [(1, 3, 2, 1), (0, 1, 1, 1), (3, 2, 1, 2)]), [3, 1])
        before = all_told(joint)
        joint.inner().clear()
        joint.inner().append(0)
        self.assertEqual(all_told(joint), before)
        for row in ([1], [0, 1, 2], []):
            unfolded = joint.unfolded(row)
            unfolded.append(9)
            unfolded[0] = 8
            self.assertEqual(all_told(joint), before)
        told_before = joint.inner()
        joint.unfolded([1, 1])
        self.assertEqual(told_before, [1, 3, 3])

    def test_joints_stand_by_themselves(self):
        hall = hall_of(4, [(1, 3, 2, 1), (0, 1, 1, 1), (3, 2, 1, 2)])
        one = Joint(hall, [3, 1])
        before = all_told(one)
        other = Joint(hall, [0, 2])
        self.assertEqual(all_told(one), before)
        self.assertEqual(other.inner(), [0, 2])

    def test_a_joined_hall_can_be_joined(self):
        hall = hall_of(4, [(0, 1, 2, 3), (1, 2, 3, 2), (2, 3, 1, 3)])
        one = self.check_joint(hall, [0, 1])
        other = self.check_joint(one.made(), [0, 1])
        row = round_of(other.made())[0]
        unfolded = one.unfolded(other.unfolded(row))
        self.assertEqual(unfolded, [0, 0, 0, 1, 1, 2, 2, 2, 3])
        Floor(hall).go(unfolded)


if __name__ == "__main__":
    unittest.main()
