"""Signals that go from hill to hill, each of which sees the next."""

from hillsight.looking import view
from hillsight.places import check_hill


def hops(land, a):
    """For each place the fewest steps by which a signal comes there from the hill at a."""
    check_hill(land, a)
    steps = [None] * len(land)
    steps[a] = 0
    newest = [a]
    while newest:
        newest = _carried_on(land, steps, newest)
    return steps


def way(land, a, b):
    """The places of a signal from a to b: the fewest steps, then least where two such differ."""
    check_hill(land, a)
    left = hops(land, b)
    path = [a]
    while left[path[-1]] > 0:
        path.append(_next_place(land, left, path[-1]))
    return path


def _carried_on(land, steps, newest):
    """The hills that a signal reaches first from the newest ones; their steps are written down."""
    reached = []
    for hill in newest:
        for place in view(land, hill):
            if steps[place] is None:
                steps[place] = steps[hill] + 1
                reached.append(place)
    return reached


def _next_place(land, left, hill):
    """The least place that the hill sees and from which fewer steps are left."""
    return min([place for place in view(land, hill) if left[place] < left[hill]])
