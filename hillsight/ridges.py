"""The ridge of a land, and how much higher a hill must become to see another one."""

from hillsight.places import check_two
from hillsight.slopes import slope, steeper


def ridge(land):
    """The places of the hills that lie on the ridge, rising."""
    found = []
    for place in range(len(land)):
        # A top that the line only touches stays on the ridge.
        while len(found) > 1 and _passes_above(land, found[-2], found[-1], place):
            found.pop()
        found.append(place)
    return found


def tower(land, a, b):
    """How much higher the hill at a must become, at the least, to see the one at b."""
    check_two(land, a, b)
    missing = [_least_height(land, a, b, k) - land[a] for k in range(min(a, b) + 1, max(a, b))]
    return max([0, *missing])


def _passes_above(land, a, k, b):
    """Whether the line from the top at a to the one at b passes above the top at k, between them."""
    return steeper(slope(land, a, b), slope(land, a, k))


def _least_height(land, a, b, k):
    """The least whole height at a from which the top at k, between them, does not hide b."""
    # A line that touches the top at k still hides b, so the next whole number above is the least;
    # rounding down before adding one finds it also where the touching line is at no whole number.
    touching = land[b] + (land[k] - land[b]) * abs(b - a) // abs(b - k)
    return touching + 1
