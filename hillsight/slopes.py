"""Slopes from a hill to a later one, as pairs of whole numbers."""


def slope(land, a, b):
    """The pair (rise, run) from the hill at a to the one at b, a less than b."""
    return (land[b] - land[a], b - a)


def steeper(one, other):
    """Whether the slope one is steeper than the slope other."""
    rise, run = one
    lift, length = other
    # Products instead of quotients: these stay exact at any height.
    return rise * length > lift * run
