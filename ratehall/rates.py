"""The change of counts; rates, or a ring of belts that shows that there are none."""

from ratehall.numbers import multiple, ratio, times
from ratehall.pieces import forest_of, way_to


def change_of(hall, counts):
    return [counts[row[0]] * row[2] - counts[row[1]] * row[3] for row in hall.belts()]


def rates_of(hall):
    forest = forest_of(hall)
    rates = rates_by(hall, forest)
    # The trees' belts leave no choice of rates, so one belt that changes shows that there are none.
    for belt, change in enumerate(change_of(hall, rates)):
        if change != 0:
            return (None, ring_through(hall, forest, belt))
    return (rates, None)


def rates_by(hall, forest):
    """The rates as the belts of the trees alone ask for them."""
    rates = [1 for name in hall.names()]
    for tree in forest:
        shares = shares_of(hall, tree)
        common = 1
        for share in shares.values():
            common = multiple(common, share[1])
        # No number above 1 divides all of these: the first work's share is 1, and common is the least that will do.
        for work, share in shares.items():
            rates[work] = common // share[1] * share[0]
    return rates


def shares_of(hall, tree):
    """For each work of the tree how often it turns for a turn of the tree's first work, as a ratio."""
    shares = {}
    for work, step in tree.items():
        if step is None:
            shares[work] = (1, 1)
        else:
            shares[work] = times(shares[step[0]], gain(hall.belt_at(step[1]), step[2]))
    return shares


def gain(row, along):
    return ratio(row[2], row[3]) if along else ratio(row[3], row[2])


def ring_through(hall, forest, belt):
    """The ring of a belt that is none of the trees' own: along it, then back from its taker to its giver by a tree."""
    row = hall.belt_at(belt)
    tree = [grown for grown in forest if row[0] in grown][0]
    to_giver = way_to(tree, row[0])
    to_taker = way_to(tree, row[1])
    shared = shared_steps(to_giver, to_taker)
    # What both ways share is left out, as no belt may come twice.
    back = [(step[0], not step[1]) for step in reversed(to_taker[shared:])]
    return [(belt, True)] + back + to_giver[shared:]


def shared_steps(one, other):
    shared = 0
    while shared < min(len(one), len(other)) and one[shared] == other[shared]:
        shared += 1
    return shared
