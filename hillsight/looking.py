"""Which hills of a land see each other, and which hill hides two others."""

from hillsight.places import check_hill, check_two
from hillsight.slopes import slope, steeper


def sees(land, a, b):
    """Whether the hills at a and b see each other."""
    return hider(land, a, b) is None


def hider(land, a, b):
    """The place of the hill that hides a and b from each other, or None."""
    check_two(land, a, b)
    later = max(a, b)
    steepest = _steepest(land, min(a, b), later)
    # The later hill comes last and wins only where it is steeper than all between.
    if steepest == later:
        return None
    return steepest


def view(land, a):
    """All places that the hill at a sees, rising."""
    check_hill(land, a)
    return _seen_behind(land, a) + _seen_ahead(land, a)


def sights(land):
    """All pairs (a, b) of hills that see each other, by a, of one a by b."""
    return [(a, b) for a in range(len(land)) for b in _seen_ahead(land, a)]


def _steepest(land, a, b):
    """The place behind a, up to b, to which the slope from a is steepest, of several the first."""
    best = a + 1
    for place in range(a + 2, b + 1):
        if steeper(slope(land, a, place), slope(land, a, best)):
            best = place
    return best


def _seen_ahead(land, a):
    """The later places that the hill at a sees, rising."""
    found = []
    steepest = None
    for place in range(a + 1, len(land)):
        climb = slope(land, a, place)
        if steepest is None or steeper(climb, steepest):
            steepest = climb
            found.append(place)
    return found


def _seen_behind(land, a):
    """The earlier places that the hill at a sees, rising."""
    found = []
    flattest = None
    for place in range(a - 1, -1, -1):
        climb = slope(land, place, a)
        # A hill between lies below the line where the slope from it to a is the steeper one.
        if flattest is None or steeper(flattest, climb):
            flattest = climb
            found.append(place)
    return found[::-1]
