"""What is a whole number, and the refusals of what is no place of a land."""

from hillsight.errors import NoHill, SameHill


def is_whole(number):
    """Whether this is a whole number; True and False are none."""
    return isinstance(number, int) and not isinstance(number, bool)


def check_hill(land, place):
    """Refuse what is no whole number from nought to below the number of hills."""
    # No message shows the place itself: Python refuses to write very long numbers.
    if not is_whole(place):
        raise NoHill("a place is a whole number")
    if place < 0 or place >= len(land):
        raise NoHill("no hill of the land stands at this place")


def check_two(land, a, b):
    """Refuse what are not the places of two different hills."""
    check_hill(land, a)
    check_hill(land, b)
    if a == b:
        raise SameHill("both places are the same hill")
