"""The pieces of a hall, and trees of belts that hold them together."""


def pieces_of(hall):
    return [sorted(tree) for tree in forest_of(hall)]


def forest_of(hall):
    """A tree for each piece, in the order of their first works, each grown from the first work of its piece."""
    ways = ways_of(hall)
    seen = {}
    forest = []
    for work in range(len(ways)):
        if work not in seen:
            tree = tree_from(ways, work)
            seen.update(tree)
            forest.append(tree)
    return forest


def ways_of(hall):
    """For each work a list of tuples (work, belt, along): where one comes from it by one belt."""
    ways = [[] for name in hall.names()]
    for belt, row in enumerate(hall.belts()):
        ways[row[0]].append((row[1], belt, True))
        ways[row[1]].append((row[0], belt, False))
    return ways


def tree_from(ways, first):
    """A dict: for each work that is reached a tuple (work, belt, along), the step that came to it, None for the first.

    Each work stands behind the one from which one came to it.
    """
    tree = {first: None}
    reached = [first]
    done = 0
    while done < len(reached):
        work = reached[done]
        done += 1
        for other, belt, along in ways[work]:
            if other not in tree:
                tree[other] = (work, belt, along)
                reached.append(other)
    return tree


def way_to(tree, work):
    """The tuples (belt, along) by which one comes from the tree's first work to this one."""
    way = []
    step = tree[work]
    while step is not None:
        way.append((step[1], step[2]))
        step = tree[step[0]]
    way.reverse()
    return way
