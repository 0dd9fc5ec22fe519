"""The desk: worlds kept by names, and rows of text answered by texts."""

from pickalike.counted import counted_parted, counted_parting
from pickalike.errors import NoName, NoRow
from pickalike.few import few_rounds
from pickalike.layers import layers, parted
from pickalike.parts import parting
from pickalike.points import orbits
from pickalike.sayings import holds
from pickalike.saytexts import read_saying, show_saying
from pickalike.turns import turning
from pickalike.worlds import beside, is_name
from pickalike.worldtexts import read_world, show_world

# What follows the first word of a row. A text goes to the row's end, the others are one word each.
FORMS = {
    "world": ("name", "text"),
    "show": ("world",),
    "say": ("world", "text"),
    "alike": ("world", "world", "number"),
    "part": ("world", "world"),
    "count": ("world", "world"),
    "few": ("world", "world", "number"),
    "beside": ("name", "world", "world"),
    "orbits": ("world",),
    "turn": ("world", "world"),
}
FIGURES = ("0", "1", "2", "3", "4", "5", "6", "7", "8", "9")


def keep_world(kept, things):
    """Keeps the world of a text by a name."""
    name, text = things
    kept[name] = read_world(text)
    return "ok"


def keep_beside(kept, things):
    """Keeps two worlds laid side by side by a name."""
    name, one, other = things
    kept[name] = beside(one, other)
    return "ok"


def tell_world(kept, things):
    """The text of a world."""
    return show_world(things[0])


def tell_saying(kept, things):
    """Whether the saying of a text holds of a world."""
    world, text = things
    return "yes" if holds(world, read_saying(text)) else "no"


def tell_alike(kept, things):
    """Whether two worlds are alike to a depth."""
    one, other, depth = things
    return "yes" if () in layers(one, other, depth)[-1] else "no"


def tell_depth(depth, saying):
    """At which depth two worlds are parted, and by which saying."""
    if depth is None:
        return "alike"
    return f"{depth} {show_saying(saying)}"


def tell_part(kept, things):
    """At which depth and by which plain saying two worlds are parted."""
    one, other = things
    return tell_depth(parted(one, other), parting(one, other))


def tell_count(kept, things):
    """At which depth and by which saying two worlds are parted by counting."""
    one, other = things
    return tell_depth(counted_parted(one, other), counted_parting(one, other))


def tell_few(kept, things):
    """At which depth two worlds are parted by few letters."""
    one, other, letters = things
    alike = [() in pairings for pairings in few_rounds(one, other, letters)]
    if all(alike):
        return "alike"
    return f"no {alike.index(False)}"


def tell_orbits(kept, things):
    """The orbits of a world."""
    return " ".join(["+".join([str(point) for point in orbit]) for orbit in orbits(things[0])])


def tell_turn(kept, things):
    """An order that turns a world into another."""
    one, other = things
    order = turning(one, other)
    if order is None:
        return "-"
    return " ".join([str(point) for point in order])


DEEDS = {
    "world": keep_world,
    "show": tell_world,
    "say": tell_saying,
    "alike": tell_alike,
    "part": tell_part,
    "count": tell_count,
    "few": tell_few,
    "beside": keep_beside,
    "orbits": tell_orbits,
    "turn": tell_turn,
}


def words_of(row):
    """The words of a row, a text at its end being one of them; what is no text has none."""
    if not isinstance(row, str):
        return []
    words = row.split(" ")
    if words[0] in FORMS and FORMS[words[0]][-1] == "text" and len(words) > 2:
        return words[:2] + [" ".join(words[2:])]
    return words


def is_of_form(word, form):
    """Whether a word can stand for what a row asks for."""
    if form == "text":
        return True
    if form == "number":
        return word in FIGURES
    return is_name(word)


def need_row(row, words):
    """Refuses what is no row, told by its words."""
    if len(words) == 0 or words[0] not in FORMS or len(words) - 1 != len(FORMS[words[0]]):
        raise NoRow(row)
    if not all([is_of_form(word, form) for word, form in zip(words[1:], FORMS[words[0]])]):
        raise NoRow(row)


def thing_of(kept, word, form):
    """What a word of a row stands for."""
    if form == "number":
        return int(word)
    if form != "world":
        return word
    if word not in kept:
        raise NoName(word)
    return kept[word]


class Desk:
    """Keeps worlds by names, and answers rows."""

    def __init__(self):
        self.kept = {}

    def say(self, row):
        """The answer to a row."""
        words = words_of(row)
        need_row(row, words)
        things = [thing_of(self.kept, word, form) for word, form in zip(words[1:], FORMS[words[0]])]
        deed = DEEDS[words[0]]
        return deed(self.kept, things)
