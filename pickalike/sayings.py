"""Sayings, what stands in them, and whether they hold of a world."""

from pickalike.errors import NoLetter, NoName
from pickalike.worlds import LETTERS, bears, is_name, is_whole, leads, tongue_of

# For each kind of saying, by its first word: how long its tuple is, and where letters stand in it. The rows that
# stand within a sheet's sayings are not among them, since they are no sayings by themselves.
LENGTHS = {"mark": 3, "arrow": 4, "same": 3, "not": 2, "and": 2, "or": 2, "some": 3, "every": 3, "least": 4}
LETTER_PLACES = {
    "mark": (2,),
    "arrow": (2, 3),
    "same": (1, 2),
    "not": (),
    "and": (),
    "or": (),
    "some": (1,),
    "every": (1,),
    "least": (2,),
}
# Where the one saying within stands, in those kinds that have just one.
INNER_PLACES = {"not": 1, "some": 2, "every": 2, "least": 3}
BINDERS = ("some", "every", "least")
MOST_LEAST = 9
# Answers are kept for parts with no more free letters than these: with more there would be too many to keep.
MOST_KEPT_LETTERS = 3


def is_letter(thing):
    """Whether the thing is a letter."""
    return isinstance(thing, str) and len(thing) == 1 and thing in LETTERS


def letters_at(saying):
    """The letters that stand in a saying itself, not in the sayings within it."""
    if saying[0] == "row":
        return list(saying[2])
    return [saying[place] for place in LETTER_PLACES[saying[0]]]


def within(saying):
    """The sayings that stand straight within a saying, from the left."""
    word = saying[0]
    if word in ("and", "or"):
        return saying[1]
    if word in INNER_PLACES:
        return (saying[INNER_PLACES[word]],)
    return ()


def is_well_made(thing):
    """Whether the thing is a saying, provided that what stands straight within it are sayings."""
    if not isinstance(thing, tuple) or len(thing) == 0 or not isinstance(thing[0], str):
        return False
    word = thing[0]
    if word not in LENGTHS or len(thing) != LENGTHS[word]:
        return False
    if not all([is_letter(letter) for letter in letters_at(thing)]):
        return False
    if word in ("mark", "arrow"):
        return is_name(thing[1])
    if word in ("and", "or"):
        return isinstance(thing[1], tuple) and len(thing[1]) != 1
    if word == "least":
        return is_whole(thing[1]) and 1 <= thing[1] <= MOST_LEAST
    return True


def is_saying(thing):
    """Whether the thing is a saying."""
    left = [thing]
    while left:
        one = left.pop()
        if not is_well_made(one):
            return False
        left.extend(within(one))
    return True


def parts_of(saying):
    """The saying and all that stand within it, from the left, each ahead of what is within it."""
    parts = []
    left = [saying]
    while left:
        one = left.pop()
        parts.append(one)
        left.extend(within(one)[::-1])
    return parts


def depth_behind(saying, earlier):
    """How deep some, every and least stand within one another, the depths of earlier rows of a sheet being told."""
    if saying[0] == "row":
        return earlier[saying[1]]
    deepest = max([depth_behind(part, earlier) for part in within(saying)], default=0)
    if saying[0] in BINDERS:
        return deepest + 1
    return deepest


def depth_of(saying):
    """How deep some, every and least stand within one another."""
    return depth_behind(saying, ())


def letters_of(saying):
    """All letters that stand in the saying."""
    return sorted({letter for part in parts_of(saying) for letter in letters_at(part)})


def free_from(saying, inner):
    """The free letters of a saying, of which those of the sayings within it are told."""
    here = letters_at(saying)
    if saying[0] in BINDERS:
        return sorted({letter for letter in inner if letter not in here})
    return sorted(set(here + inner))


def free_of(saying):
    """The free letters of the saying."""
    return free_from(saying, [letter for part in within(saying) for letter in free_of(part)])


def is_plain(saying):
    """Whether there is no least in the saying."""
    return all([part[0] != "least" for part in parts_of(saying)])


def is_spoken(saying, tongue):
    """Whether the name that stands in a saying itself, if there is one, is of the tongue."""
    marks, arrows = tongue
    if saying[0] == "mark":
        return saying[1] in marks
    if saying[0] == "arrow":
        return saying[1] in arrows
    return True


def speaks(saying, tongue):
    """Whether the saying is of the tongue."""
    return all([is_spoken(part, tongue) for part in parts_of(saying)])


class Part:
    """A saying within one that is asked of a world, and what was found of it by the points at its free letters.

    Without what was found, each part would be reckoned anew for each choice of points at all letters
    round it, also at those that it doesn't speak of. Of each earlier row of a sheet it is told for which
    points it holds.
    """

    def __init__(self, saying, earlier):
        self.saying = saying
        self.inner = [Part(one, earlier) for one in within(saying)]
        self.table = earlier[saying[1]] if saying[0] == "row" else None
        self.free = free_from(saying, [letter for part in self.inner for letter in part.free])
        self.kept = saying[0] in BINDERS and len(self.free) <= MOST_KEPT_LETTERS
        self.found = {}


def enough(world, part, places, wanted):
    """Whether the saying within holds for so many points at the letter of a some, every or least."""
    letter = letters_at(part.saying)[0]
    spare = world[0] - wanted
    here = dict(places)
    for point in range(world[0]):
        here[letter] = point
        if part_holds(world, part.inner[0], here):
            wanted -= 1
        else:
            spare -= 1
        if wanted == 0 or spare < 0:
            break
    return wanted == 0


def any_part_is(world, parts, places, truth):
    """Whether one of the parts at least has this truth."""
    for part in parts:
        if part_holds(world, part, places) == truth:
            return True
    return False


def reckoned(world, part, places):
    """Whether a part holds, by what is said of its kind."""
    saying = part.saying
    word = saying[0]
    if word == "mark":
        return bears(world, saying[1], places[saying[2]])
    if word == "arrow":
        return leads(world, saying[1], places[saying[2]], places[saying[3]])
    if word == "same":
        return places[saying[1]] == places[saying[2]]
    if word == "row":
        return part.table[tuple([places[letter] for letter in saying[2]])]
    if word == "not":
        return not part_holds(world, part.inner[0], places)
    if word == "and":
        return not any_part_is(world, part.inner, places, False)
    if word == "or":
        return any_part_is(world, part.inner, places, True)
    if word == "some":
        return enough(world, part, places, 1)
    if word == "every":
        return enough(world, part, places, world[0])
    return enough(world, part, places, saying[1])


def part_holds(world, part, places):
    """Whether a part holds, by what was found of it or else reckoned now."""
    if not part.kept:
        return reckoned(world, part, places)
    points = tuple([places[letter] for letter in part.free])
    if points not in part.found:
        part.found[points] = reckoned(world, part, places)
    return part.found[points]


def holds(world, saying, places=None):
    """Whether the saying holds of the world, the letters being put at the points that places tells."""
    if places is None:
        places = {}
    tongue = tongue_of(world)
    for part in parts_of(saying):
        if not is_spoken(part, tongue):
            raise NoName(part[1])
    asked = Part(saying, ())
    for letter in asked.free:
        if letter not in places:
            raise NoLetter(letter)
    return part_holds(world, asked, places)
