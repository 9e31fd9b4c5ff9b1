"""The promises about seeing, ridges, towers, signals and changes done as plainly as they are told, and lands to try."""

from itertools import product

TOP = 10 ** 18


def lies_below(land, a, k, b):
    """Whether the top at k lies below the line from the top at a to the one at b, a < k < b."""
    return (land[k] - land[a]) * (b - a) < (land[b] - land[a]) * (k - a)


def plain_sees(land, a, b):
    a, b = min(a, b), max(a, b)
    return all(lies_below(land, a, k, b) for k in range(a + 1, b))


def plain_hider(land, a, b):
    a, b = min(a, b), max(a, b)
    if plain_sees(land, a, b):
        return None
    between = range(a + 1, b)
    for k in between:
        if all((land[j] - land[a]) * (k - a) <= (land[k] - land[a]) * (j - a) for j in between):
            return k
    raise AssertionError("one of the hills between is the steepest")


def plain_sights(land):
    count = len(land)
    return [(a, b) for a in range(count) for b in range(a + 1, count) if plain_sees(land, a, b)]


def plain_views(land):
    """The view of each hill, taken from the plain sights."""
    views = [[] for _ in land]
    for a, b in plain_sights(land):
        views[a].append(b)
        views[b].append(a)
    return [sorted(row) for row in views]


def small_lands():
    """Every land of 1 to 6 hills with heights from -1 to 1."""
    for count in range(1, 7):
        for heights in product((-1, 0, 1), repeat=count):
            yield list(heights)


def mixed(count, spread):
    """A land of heights that jump about between -spread and spread, always the same one."""
    state = 12345
    heights = []
    for _ in range(count):
        state = (state * 6364136223846793005 + 1442695040888963407) % 2 ** 64
        heights.append(state % (2 * spread + 1) - spread)
    return heights


def long_lands(count=200):
    """Named lands of many hills: straight, curved, mixed, and at the bound of heights."""
    half = count // 2
    return {
        "level": [7] * count,
        "rising": [3 * k - 100 for k in range(count)],
        "falling": [50 - 2 * k for k in range(count)],
        "steepest rise": [-TOP + k * (2 * TOP // (count - 1)) for k in range(count)],
        "valley": [k * (k - count) for k in range(count)],
        "dome": [k * (count - k) for k in range(count)],
        "high valley": [TOP - k * (count - k) for k in range(count)],
        "deep dome": [k * (count - k) - TOP for k in range(count)],
        "peak": [half - abs(half - k) for k in range(count)],
        "notch": [abs(half - k) for k in range(count)],
        "from edge to edge": [TOP if k % 2 else -TOP for k in range(count)],
        "mixed low": mixed(count, 3),
        "mixed high": mixed(count, TOP),
    }


def plain_ridge(land):
    """The places above whose tops no line between an earlier and a later top passes."""
    places = range(len(land))
    return [
        k for k in places
        if not any(lies_below(land, a, k, b) for a in range(k) for b in places[k + 1:])
    ]


def plain_tower(land, a, b):
    """The least of all whole numbers from nought on that make a and b see each other."""
    height = 0
    while not plain_sees(raised(land, a, height), a, b):
        height += 1
    return height


def raised(land, place, by):
    """A new land, one hill of which is higher."""
    return land[:place] + [land[place] + by] + land[place + 1:]


def plain_hops(views, a):
    """Going out from a, step by step, to all that see a hill reached before; by the views of a land."""
    steps = {a: 0}
    while len(steps) < len(views):
        reached = {place for hill in steps for place in views[hill]} - set(steps)
        steps.update(dict.fromkeys(reached, max(steps.values()) + 1))
    return [steps[place] for place in range(len(views))]


def plain_way(views, a, b):
    """The least of all ways of the fewest steps, by trying all ways of one step, of two, and so on."""
    ways = [[a]]
    while not any(way[-1] == b for way in ways):
        ways = [way + [place] for way in ways for place in views[way[-1]]]
    return min(way for way in ways if way[-1] == b)


def plain_ways_to(views, b):
    """The way from each hill to b, built up backwards from b by whole lists."""
    ways = {b: [b]}
    while len(ways) < len(views):
        found = {}
        for hill in set(range(len(views))) - set(ways):
            candidates = [[hill] + ways[place] for place in views[hill] if place in ways]
            if candidates:
                found[hill] = min(candidates)
        ways.update(found)
    return [ways[hill] for hill in range(len(views))]


def plain_change(ahead, behind):
    """The pairs that came to be and those that ceased between two lands, each in order."""
    before, after = set(plain_sights(ahead)), set(plain_sights(behind))
    return (sorted(after - before), sorted(before - after))
