"""Lands written as texts."""

from hillsight.errors import NoLand
from hillsight.lands import checked

# The bound of heights, 10 ** 18, has as many.
MOST_FIGURES = 19


def shown(land):
    """The text that writes a land: its heights, one blank between."""
    return " ".join([str(height) for height in land])


def read(line):
    """The land that a text writes."""
    if not isinstance(line, str):
        raise NoLand("a land is read from a text")
    return checked([_height(word) for word in line.split(" ")])


def _height(word):
    """The height that a word writes."""
    figures = word.removeprefix("-")
    # Python reads figures of other scripts, too, so these must be ruled out.
    if not figures.isascii() or not figures.isdigit():
        raise NoLand("a height is written in figures, a minus ahead of them where it is below nought")
    if figures.startswith("0") and word != "0":
        raise NoLand("a height has no leading nought, and nought has no minus")
    # Python refuses to read very long figures, and by an error of its own.
    if len(figures) > MOST_FIGURES:
        raise NoLand("a height is at most 10 ** 18 either way")
    return int(word)
