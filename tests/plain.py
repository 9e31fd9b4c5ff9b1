"""Promises 2, 5 and 6 done as plainly as they are told, and lands to try them on."""

from itertools import product

TOP = 10 ** 18


def lies_below(land, a, k, b):
    """Whether the top at k lies below the line from the top at a to the one at b, a < k < b."""
    return (land[k] - land[a]) * (b - a) < (land[b] - land[a]) * (k - a)


def plain_sees(land, a, b):
    a, b = min(a, b), max(a, b)
    return all(lies_below(land, a, k, b) for k in range(a + 1, b))


def plain_hider(land, a, b):
    a, b = min(a, b), max(a, b)
    if plain_sees(land, a, b):
        return None
    between = range(a + 1, b)
    for k in between:
        if all((land[j] - land[a]) * (k - a) <= (land[k] - land[a]) * (j - a) for j in between):
            return k
    raise AssertionError("one of the hills between is the steepest")


def plain_sights(land):
    count = len(land)
    return [(a, b) for a in range(count) for b in range(a + 1, count) if plain_sees(land, a, b)]


def plain_views(land):
    """The view of each hill, taken from the plain sights."""
    views = [[] for _ in land]
    for a, b in plain_sights(land):
        views[a].append(b)
        views[b].append(a)
    return [sorted(row) for row in views]


def small_lands():
    """Every land of 1 to 6 hills with heights from -1 to 1."""
    for count in range(1, 7):
        for heights in product((-1, 0, 1), repeat=count):
            yield list(heights)


def mixed(count, spread):
    """A land of heights that jump about between -spread and spread, always the same one."""
    state = 12345
    heights = []
    for _ in range(count):
        state = (state * 6364136223846793005 + 1442695040888963407) % 2 ** 64
        heights.append(state % (2 * spread + 1) - spread)
    return heights


def long_lands(count=200):
    """Named lands of many hills: straight, curved, mixed, and at the bound of heights."""
    half = count // 2
    return {
        "level": [7] * count,
        "rising": [3 * k - 100 for k in range(count)],
        "falling": [50 - 2 * k for k in range(count)],
        "steepest rise": [-TOP + k * (2 * TOP // (count - 1)) for k in range(count)],
        "valley": [k * (k - count) for k in range(count)],
        "dome": [k * (count - k) for k in range(count)],
        "high valley": [TOP - k * (count - k) for k in range(count)],
        "deep dome": [k * (count - k) - TOP for k in range(count)],
        "peak": [half - abs(half - k) for k in range(count)],
        "notch": [abs(half - k) for k in range(count)],
        "from edge to edge": [TOP if k % 2 else -TOP for k in range(count)],
        "mixed low": mixed(count, 3),
        "mixed high": mixed(count, TOP),
    }
