"""The promise over the whole: halls are put by rows of a desk, and all that it tells is walked by the test itself."""
import random
import unittest
from fractions import Fraction
from itertools import product
from math import gcd

from ratehall.desk import Desk
from ratehall.errors import NotBalanced, RateError, Stuck, TooLong

NAMES = ("saw", "press", "drill", "oven", "x")


class Walk:
    """A hall by itself: belts are tuples (giver, taker, give, take, start)."""

    def __init__(self, works, belts):
        self.works = works
        self.belts = belts

    def rows(self):
        rows = ["work " + NAMES[work] for work in range(self.works)]
        for giver, taker, give, take, start in self.belts:
            rows.append(f"belt {NAMES[giver]} {give} {take} {NAMES[taker]} {start}")
        return rows

    def desk(self):
        desk = Desk()
        for row in self.rows():
            desk.say(row)
        return desk

    def pieces(self):
        group = list(range(self.works))
        for giver, taker, give, take, start in self.belts:
            group = [group[giver] if one == group[taker] else one for one in group]
        return [[work for work in range(self.works) if group[work] == one] for one in sorted(set(group))]

    def rates(self):
        """Each piece's shares by way of its belts, again and again; None where two belts ask for different ones."""
        rates = [0] * self.works
        for piece in self.pieces():
            shares = {piece[0]: Fraction(1)}
            for turn in piece:
                for giver, taker, give, take, start in self.belts:
                    if giver in shares:
                        shares.setdefault(taker, shares[giver] * give / take)
                    if taker in shares:
                        shares.setdefault(giver, shares[taker] * take / give)
            bottom = 1
            for share in shares.values():
                bottom = bottom * share.denominator // gcd(bottom, share.denominator)
            whole = {work: int(share * bottom) for work, share in shares.items()}
            common = gcd(*whole.values())
            for work in piece:
                rates[work] = whole[work] // common
        for giver, taker, give, take, start in self.belts:
            if rates[giver] * give != rates[taker] * take:
                return None
        return rates

    def lying(self, counts):
        return [start + give * counts[giver] - take * counts[taker] for giver, taker, give, take, start in self.belts]

    def is_ready(self, work, lying, rooms=None):
        for belt, (giver, taker, give, take, start) in enumerate(self.belts):
            if taker == work and lying[belt] < take:
                return False
            if rooms is not None and giver == work and rooms[belt] - lying[belt] < give:
                return False
        return True

    def walked(self, rooms=None, chance=None):
        """Turns the least ready work with turns left, or any one, until there is none."""
        rates, counts, row = self.rates(), [0] * self.works, []
        while True:
            lying = self.lying(counts)
            able = [work for work in range(self.works)
                    if counts[work] < rates[work] and self.is_ready(work, lying, rooms)]
            if not able:
                return row
            row.append(able[0] if chance is None else chance.choice(able))
            counts[row[-1]] += 1

    def has_round(self, rooms=None):
        return len(self.walked(rooms)) == sum(self.rates())

    def backed(self, rooms):
        backs = [(taker, giver, take, give, room - start)
                 for (giver, taker, give, take, start), room in zip(self.belts, rooms)]
        return Walk(self.works, self.belts + backs)


class WholeCase(unittest.TestCase):
    def check_turns(self, walk, row, rooms=None):
        """A round: none is ever short of pieces or room, and each turns as often as its rate."""
        counts = [0] * walk.works
        for work in row:
            self.assertTrue(walk.is_ready(work, walk.lying(counts), rooms))
            counts[work] += 1
        self.assertEqual(counts, walk.rates())

    def check_stop(self, walk, text):
        """A stop, of a hall or a backed hall."""
        parts = text.removeprefix("stop ").split(" / ")
        counts, ring = [int(word) for word in parts[0].split(" ")], [int(word) for word in parts[1].split(" ")]
        row = walk.walked()
        self.assertEqual(counts, [row.count(work) for work in range(walk.works)])
        self.assertLess(len(row), sum(walk.rates()))
        self.assertEqual(len(ring), len(set(ring)))
        lying = walk.lying(counts)
        for belt, behind in zip(ring, ring[1:] + ring[:1]):
            giver, taker, give, take, start = walk.belts[belt]
            self.assertEqual(giver, walk.belts[behind][1])
            self.assertLess(counts[taker], walk.rates()[taker])
            self.assertLess(lying[belt], take)

    def row_in(self, text):
        words = text.split(" ")
        self.assertEqual(words[0], "turns")
        return [NAMES.index(name) for name in words[1:]]

    def said(self, desk, row):
        try:
            return desk.say(row)
        except RateError as refusal:
            return type(refusal)


def any_walk(chance, most_works, most_belts, most, starts):
    works = chance.randrange(1, most_works + 1)
    belts = [(chance.randrange(works), chance.randrange(works), chance.randrange(1, most), chance.randrange(1, most),
              chance.choice(starts)) for belt in range(chance.randrange(most_belts + 1))]
    return Walk(works, belts)


def balanced_walk(chance, most_works, most_belts, most_rate, starts):
    works = chance.randrange(1, most_works + 1)
    rates = [chance.randrange(1, most_rate + 1) for work in range(works)]
    belts = []
    for belt in range(chance.randrange(most_belts + 1)):
        giver, taker, often = chance.randrange(works), chance.randrange(works), chance.choice((1, 1, 2))
        common = gcd(rates[giver], rates[taker])
        give, take = rates[taker] // common * often, rates[giver] // common * often
        belts.append((giver, taker, give, take, chance.choice(starts)))
    return Walk(works, belts)


class TestRates(WholeCase):
    def test_rates_or_a_ring(self):
        chance = random.Random(101)
        found = {True: 0, False: 0}
        for turn in range(400):
            walk = any_walk(chance, 5, 5, chance.choice((2, 3, 9, 10 ** 30)), (0, 1))
            if chance.randrange(3) == 0:
                walk = balanced_walk(chance, 5, 7, 6, (0, 1))
            answer, rates = walk.desk().say("rates"), walk.rates()
            with self.subTest(rows=walk.rows()):
                if rates is None:
                    self.check_ring(walk, answer)
                else:
                    self.assertEqual(answer, ", ".join(f"{NAMES[work]} {rate}" for work, rate in enumerate(rates)))
            found[rates is None] += 1
        self.assertGreater(min(found.values()), 80)

    def check_ring(self, walk, answer):
        words = answer.split(" ")
        self.assertEqual(words[0], "ring")
        steps = [(int(word[:-1]), {"+": True, "-": False}[word[-1]]) for word in words[1:]]
        self.assertGreater(len(steps), 0)
        self.assertEqual(len(steps), len({belt for belt, along in steps}))
        whole = Fraction(1)
        ends = []
        for belt, along in steps:
            giver, taker, give, take, start = walk.belts[belt]
            ends.append((giver, taker) if along else (taker, giver))
            whole *= Fraction(give, take) if along else Fraction(take, give)
        for one, other in zip(ends, ends[1:] + ends[:1]):
            self.assertEqual(one[1], other[0])
        self.assertNotEqual(whole, 1)

    def test_belts_come_back_just_at_multiples_of_the_rates(self):
        chance = random.Random(102)
        back = 0
        for turn in range(150):
            walk = balanced_walk(chance, 3, 4, 2, (0,))
            rates = [int(part.split(" ")[1]) for part in walk.desk().say("rates").split(", ")]
            for counts in product(range(5), repeat=walk.works):
                comes_back = walk.lying(counts) == [0] * len(walk.belts)
                multiples = all(len({Fraction(counts[work], rates[work]) for work in piece}) == 1
                                and counts[piece[0]] % rates[piece[0]] == 0 for piece in walk.pieces())
                self.assertEqual(comes_back, multiples)
                back += comes_back
        self.assertGreater(back, 500)


class TestRounds(WholeCase):
    def test_a_round_or_a_stop(self):
        chance = random.Random(103)
        found = {True: 0, False: 0}
        for turn in range(400):
            walk = balanced_walk(chance, 5, 6, 4, (0, 0, 1, 2, 3, 6))
            answer = walk.desk().say("round")
            with self.subTest(rows=walk.rows()):
                if walk.has_round():
                    self.assertEqual(self.row_in(answer), walk.walked())
                    self.check_turns(walk, self.row_in(answer))
                else:
                    self.check_stop(walk, answer)
                # Whoever turns any ready works comes to a round where there is one, and to none elsewhere.
                for order in range(3):
                    row = walk.walked(chance=chance)
                    self.assertEqual(len(row) == sum(walk.rates()), answer.startswith("turns"))
            found[walk.has_round()] += 1
        self.assertGreater(min(found.values()), 80)

    def test_refused(self):
        chance = random.Random(104)
        found = {NotBalanced: 0, TooLong: 0, None: 0}
        for turn in range(300):
            walk = any_walk(chance, 5, 4, chance.choice((3, 12, 40)), (0, 5))
            rates = walk.rates()
            expected = NotBalanced if rates is None else TooLong if sum(rates) > 400 else None
            answer = self.said(walk.desk(), "round")
            self.assertEqual(answer if expected else isinstance(answer, str), expected or True)
            found[expected] += 1
        self.assertGreater(min(found.values()), 5)


class TestRooms(WholeCase):
    def test_rooms(self):
        chance = random.Random(105)
        found = {True: 0, False: 0}
        for turn in range(300):
            walk = balanced_walk(chance, 4, 4, 3, (0, 0, 1, 2, 4))
            rooms = [start + chance.randrange(2 * give + take) for giver, taker, give, take, start in walk.belts]
            answer = walk.desk().say(" ".join(["rooms"] + [str(room) for room in rooms]))
            with self.subTest(rows=walk.rows(), rooms=rooms):
                if walk.has_round(rooms):
                    self.assertEqual(self.row_in(answer), walk.walked(rooms))
                    self.check_turns(walk, self.row_in(answer), rooms)
                else:
                    self.check_stop(walk.backed(rooms), answer)
            found[walk.has_round(rooms)] += 1
        self.assertGreater(min(found.values()), 80)

    def test_lean_rooms_are_enough_and_none_can_be_less(self):
        chance = random.Random(106)
        found = {True: 0, False: 0}
        for turn in range(250):
            walk = balanced_walk(chance, 4, 5, 4, (0, 0, 1, 2, 5))
            desk = walk.desk()
            found[walk.has_round()] += 1
            if not walk.has_round():
                self.assertIs(self.said(desk, "lean"), Stuck)
                continue
            answer = desk.say("lean")
            rooms = [int(word) for word in answer.split(" ")] if walk.belts else []
            with self.subTest(rows=walk.rows(), rooms=rooms):
                self.assertEqual(answer == "none", not walk.belts)
                self.assertEqual(rooms, self.lean(walk))
                within = desk.say(" ".join(["rooms"] + [str(room) for room in rooms]))
                self.check_turns(walk, self.row_in(within), rooms)
                for belt, room in enumerate(rooms):
                    if room > walk.belts[belt][4]:
                        less = rooms[:belt] + [room - 1] + rooms[belt + 1:]
                        self.check_stop(walk.backed(less), desk.say("rooms " + " ".join(str(room) for room in less)))
        self.assertGreater(min(found.values()), 60)

    def lean(self, walk):
        """The peaks of the told round, then belt by belt one less as long as there is a round."""
        counts, rooms = [0] * walk.works, [belt[4] for belt in walk.belts]
        for work in walk.walked():
            lying = walk.lying(counts)
            for belt, (giver, taker, give, take, start) in enumerate(walk.belts):
                if giver == work:
                    rooms[belt] = max(rooms[belt], lying[belt] + give)
            counts[work] += 1
        for belt, (giver, taker, give, take, start) in enumerate(walk.belts):
            while rooms[belt] > start and walk.has_round(rooms[:belt] + [rooms[belt] - 1] + rooms[belt + 1:]):
                rooms[belt] -= 1
        return rooms

    def test_least_rooms_are_the_first_of_all(self):
        chance = random.Random(107)
        done = 0
        for turn in range(250):
            walk = balanced_walk(chance, 3, 3, 3, (0, 0, 1, 2))
            if not walk.has_round():
                self.assertIs(self.said(walk.desk(), "least"), Stuck)
                continue
            answer = walk.desk().say("least")
            rooms = [int(word) for word in answer.split(" ")] if walk.belts else []
            with self.subTest(rows=walk.rows(), rooms=rooms):
                self.assertEqual(answer == "none", not walk.belts)
                self.assertTrue(walk.has_round(rooms))
                lows = [max(belt[2:]) for belt in walk.belts]
                spare = sum(rooms) - sum(lows)
                for more in product(range(spare + 1), repeat=len(lows)):
                    other = [low + add for low, add in zip(lows, more)]
                    if (sum(other), other) < (sum(rooms), rooms):
                        self.assertFalse(walk.has_round(other))
            done += 1
        self.assertGreater(done, 100)


class TestJoin(WholeCase):
    def test_an_unfolded_round_of_the_joined_hall_is_a_round_of_the_hall(self):
        chance = random.Random(108)
        found = {"round": 0, "no round": 0, "stuck": 0}
        for turn in range(300):
            walk = balanced_walk(chance, 4, 5, 4, (0, 1, 2, 4, 8))
            group = chance.sample(range(walk.works), chance.randrange(1, walk.works + 1))
            answer = self.said(walk.desk(), "join " + " ".join(NAMES[work] for work in group))
            members = sorted(group)
            rates = walk.rates()
            common = gcd(*[rates[member] for member in members])
            inner = self.inner_row(walk, members, [rate // common for rate in rates])
            if inner is None:
                self.assertIs(answer, Stuck)
                found["stuck"] += 1
                continue
            desk = Desk()
            for row in answer.split(" / "):
                desk.say(row)
            names = [NAMES[work] for work in range(walk.works) if work == members[0] or work not in members]
            joined = [common if NAMES.index(name) == members[0] else rates[NAMES.index(name)] for name in names]
            self.assertEqual(desk.say("rates"), ", ".join(f"{name} {rate}" for name, rate in zip(names, joined)))
            text = desk.say("round")
            if not text.startswith("turns"):
                found["no round"] += 1
                continue
            row = []
            for name in text.split(" ")[1:]:
                row += inner if NAMES.index(name) == members[0] else [NAMES.index(name)]
            self.check_turns(walk, row)
            found["round"] += 1
        self.assertGreater(min(found.values()), 15)

    def inner_row(self, walk, members, turns):
        belts = [belt for belt in walk.belts if belt[0] in members and belt[1] in members]
        alone, counts, row = Walk(walk.works, belts), [0] * walk.works, []
        while True:
            lying = alone.lying(counts)
            able = [work for work in members if counts[work] < turns[work] and alone.is_ready(work, lying)]
            if not able:
                return row if len(row) == sum(turns[member] for member in members) else None
            row.append(able[0])
            counts[row[-1]] += 1


class TestRun(WholeCase):
    def test_code_leaves_just_the_pieces_that_the_works_leave(self):
        chance = random.Random(109)
        found = {"ok": 0, "several laps": 0, TooLong: 0, Stuck: 0}
        for turn in range(300):
            walk = balanced_walk(chance, 4, 4, 3, (0, 1, 2, 3, 5, 7, 11, 19))
            desk = walk.desk()
            forms = [self.put_forms(chance, walk, desk, work) for work in range(walk.works)]
            pieces = [[chance.randrange(-9, 10) for piece in range(belt[4])] for belt in walk.belts]
            times = chance.choice((0, 1, 2, 3))
            row = " ".join([f"run {times}"] + [self.text_of(lying) for lying in pieces])
            answer = self.said(desk, row)
            if not walk.has_round():
                self.assertIs(answer, Stuck)
                found[Stuck] += 1
                continue
            rooms = [int(word) for word in desk.say("lean").split(" ")] if walk.belts else []
            given = [walk.rates()[belt[0]] * belt[2] for belt in walk.belts]
            laps = 1
            for room, many in zip(rooms, given):
                # Behind these laps, times those that this belt needs behind them.
                laps *= min(more for more in range(1, room + 1) if laps * more * many % room == 0)
            if laps * sum(given) > 3000:
                self.assertIs(answer, TooLong)
                found[TooLong] += 1
                continue
            with self.subTest(rows=walk.rows(), forms=forms, row=row):
                for turn in walk.walked() * laps * times:
                    self.turn(walk, forms, pieces, turn)
                self.assertEqual(answer, " ".join(["ok"] + [self.text_of(lying) for lying in pieces]))
            found["ok"] += 1
            found["several laps"] += laps > 1 and times > 0
        self.assertGreater(min(found.values()), 15)

    def text_of(self, lying):
        return " ".join(["/"] + [str(piece) for piece in lying])

    def put_forms(self, chance, walk, desk, work):
        slots = sum(take for giver, taker, give, take, start in walk.belts if taker == work)
        forms = []
        for form in range(sum(give for giver, taker, give, take, start in walk.belts if giver == work)):
            many = chance.randrange(3) if slots else 0
            terms = [(chance.randrange(slots), chance.randrange(-1, 2)) for term in range(many)]
            forms.append((chance.randrange(-3, 4), terms))
        # Some works keep the forms that come to nought.
        if chance.randrange(5) == 0:
            return [(0, []) for form in forms]
        texts = ["".join([str(constant)] + [f" {factor}@{slot}" for slot, factor in terms]) for constant, terms in forms]
        self.assertEqual(desk.say(f"forms {NAMES[work]} " + (", ".join(texts) or "-")), "ok")
        return forms

    def turn(self, walk, forms, pieces, work):
        slots = []
        for belt, (giver, taker, give, take, start) in enumerate(walk.belts):
            if taker == work:
                slots += pieces[belt][:take]
                pieces[belt] = pieces[belt][take:]
        values = [constant + sum(factor * slots[slot] for slot, factor in terms) for constant, terms in forms[work]]
        for belt, (giver, taker, give, take, start) in enumerate(walk.belts):
            if giver == work:
                pieces[belt] = pieces[belt] + values[:give]
                values = values[give:]


if __name__ == "__main__":
    unittest.main()
