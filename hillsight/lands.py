"""What a land is, and lands of their own that change by lifts."""

from hillsight.errors import NoLand, NothingDone, TooHigh
from hillsight.looking import sights
from hillsight.places import check_hill, is_whole

MOST_HILLS = 200
BOUND = 10 ** 18


def checked(land):
    """A new list of the same heights, of what is a land."""
    if not isinstance(land, list):
        raise NoLand("a land is a list of heights")
    if len(land) < 1 or len(land) > MOST_HILLS:
        raise NoLand("a land has 1 to 200 hills")
    for height in land:
        if not is_whole(height) or not _is_in_bound(height):
            raise NoLand("a height is a whole number of at most 10 ** 18 either way")
    return list(land)


class Land:
    """A land of its own, whose hills become higher or lower, and which can be taken back."""

    def __init__(self, heights):
        self._heights = checked(heights)
        self._lifts = []

    def told(self):
        """Its heights."""
        return list(self._heights)

    def seen(self):
        """All pairs of its hills that see each other."""
        return sights(self._heights)

    def lift(self, place, by):
        """Make one hill higher; tell the pairs that came to see each other, and those that ceased."""
        check_hill(self._heights, place)
        if not is_whole(by):
            raise TooHigh("a hill is lifted by a whole number")
        if not _is_in_bound(self._heights[place] + by):
            raise TooHigh("a height is at most 10 ** 18 either way")
        self._lifts.append((place, by))
        return self._moved(place, by)

    def back(self):
        """Undo the last lift that is left; tell the pairs that came and those that ceased by this."""
        if not self._lifts:
            raise NothingDone("no lift is left to be taken back")
        place, by = self._lifts.pop()
        return self._moved(place, -by)

    def _moved(self, place, by):
        """Change one height, and tell the pairs that came to be by it and those that ceased."""
        ahead = sights(self._heights)
        self._heights[place] += by
        behind = sights(self._heights)
        return (_without(behind, ahead), _without(ahead, behind))


def _is_in_bound(height):
    """Whether this whole number is at most 10 ** 18 either way."""
    return -BOUND <= height <= BOUND


def _without(pairs, others):
    """The pairs that are not among the others, in their order."""
    known = set(others)
    return [pair for pair in pairs if pair not in known]
