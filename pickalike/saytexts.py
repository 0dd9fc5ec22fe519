"""Sayings written as texts, and read."""

from pickalike.errors import NoSaying
from pickalike.sayings import is_saying

FIGURES = ("1", "2", "3", "4", "5", "6", "7", "8", "9")
WITHOUT_PARTS = {"true": ("and", ()), "false": ("or", ())}


def group_pieces(word, parts):
    """The pieces of an and or an or."""
    if len(parts) == 0:
        return ["true" if word == "and" else "false"]
    pieces = ["("]
    for part in parts:
        pieces.extend([part, f" {word} "])
    pieces[-1] = ")"
    return pieces


def pieces_of(saying):
    """The text of a saying in pieces, from the left: texts, and the sayings within it."""
    word = saying[0]
    if word == "mark":
        return [f"{saying[1]}({saying[2]})"]
    if word == "arrow":
        return [f"{saying[1]}({saying[2]} {saying[3]})"]
    if word == "same":
        return [f"{saying[1]} = {saying[2]}"]
    if word in ("and", "or"):
        return group_pieces(word, saying[1])
    # In all the others, what stands ahead of the saying within is written as it comes.
    return [f"{thing} " for thing in saying[:-1]] + [saying[-1]]


def show_saying(saying):
    """The text of a saying."""
    texts = []
    left = [saying]
    while left:
        piece = left.pop()
        if isinstance(piece, str):
            texts.append(piece)
        else:
            left.extend(pieces_of(piece)[::-1])
    return "".join(texts)


def take(read):
    """The foremost of what was read, taken away there."""
    if not read:
        raise NoSaying("the text ends where more is to come")
    return read.pop()


def take_bracket(read):
    """All that stands up to the nearest closing bracket, taken away with it."""
    things = []
    thing = take(read)
    while thing != ")":
        things.append(thing)
        thing = take(read)
    return things


def group_at(read):
    """The and or the or whose parts, and the words between them, were read."""
    things = take_bracket(read)
    if len(things) < 2:
        raise NoSaying("in the brackets there are no two parts")
    return (things[1], tuple(things[::2]))


def named_at(name, read):
    """The mark or the arrow whose letters were read."""
    letters = tuple(take_bracket(read))
    if len(letters) == 1:
        return ("mark", name) + letters
    return ("arrow", name) + letters


def least_at(read):
    """The least whose number, letter and saying were read."""
    figure = take(read)
    if figure not in FIGURES:
        raise NoSaying("behind least there is no number from 1 to 9")
    letter = take(read)
    return ("least", int(figure), letter, take(read))


def made_of(word, read):
    """What a word makes of what was read behind it; the word itself, where that is nothing."""
    if word in WITHOUT_PARTS:
        return WITHOUT_PARTS[word]
    if word == "not":
        return ("not", take(read))
    if word in ("some", "every"):
        letter = take(read)
        return (word, letter, take(read))
    if word == "least":
        return least_at(read)
    if word == "(":
        return group_at(read)
    if word.endswith("("):
        return named_at(word[:-1], read)
    if read and read[-1] == "=":
        read.pop()
        return ("same", word, take(read))
    return word


def read_saying(text):
    """The saying of which this is the text."""
    if not isinstance(text, str):
        raise NoSaying("what is no text is no saying's text")
    words = text.replace("(", "( ").replace(")", " )").split(" ")
    # Read from the right, each word finds all that belongs to it already there; the foremost stands last.
    read = []
    for word in words[::-1]:
        read.append(made_of(word, read))
    saying = read[-1]
    # The words are read loosely: only a text that is written again just as it came is one of a saying.
    if not is_saying(saying) or show_saying(saying) != text:
        raise NoSaying("the text is not that of a saying")
    return saying
