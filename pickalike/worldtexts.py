"""Worlds written as texts, and read."""

from pickalike.errors import NoWorld
from pickalike.worlds import is_world

FIGURES = ("0", "1", "2", "3", "4", "5", "6", "7", "8")


def show_mark(name, points):
    """The part of a world's text for one mark."""
    return " ".join([f"{name}:"] + [str(point) for point in points])


def show_arrow(name, pairs):
    """The part of a world's text for one arrow."""
    return " ".join([f"{name}>"] + [f"{one}-{other}" for one, other in pairs])


def show_world(world):
    """The text of a world."""
    many, marks, arrows = world
    parts = [str(many)]
    parts.extend([show_mark(name, points) for name, points in marks])
    parts.extend([show_arrow(name, pairs) for name, pairs in arrows])
    return "; ".join(parts)


def read_figure(word):
    """The number that one figure tells; no number of a world has two."""
    if word not in FIGURES:
        raise NoWorld("a number of the text is none of a world")
    return int(word)


def read_pair(word):
    """The pair of points that a word with a hyphen tells."""
    one, sign, other = word.partition("-")
    return (read_figure(one), read_figure(other))


def read_mark(part):
    """The mark that a part with a colon tells."""
    name, sign, rest = part.partition(":")
    return (name, tuple([read_figure(word) for word in rest.split(" ")[1:]]))


def read_arrow(part):
    """The arrow that a part without a colon tells."""
    name, sign, rest = part.partition(">")
    return (name, tuple([read_pair(word) for word in rest.split(" ")[1:]]))


def read_world(text):
    """The world of which this is the text."""
    if not isinstance(text, str):
        raise NoWorld("what is no text is no world's text")
    head, *parts = text.split("; ")
    marks = [read_mark(part) for part in parts if ":" in part]
    arrows = [read_arrow(part) for part in parts if ":" not in part]
    world = (read_figure(head), tuple(marks), tuple(arrows))
    # The parts are read loosely: only a text that is written again just as it came is one of a world.
    if not is_world(world) or show_world(world) != text:
        raise NoWorld("the text is not that of a world")
    return world
