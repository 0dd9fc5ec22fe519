"""The refusals of the program."""


class PickError(ValueError):
    """Any refusal."""


class NoWorld(PickError):
    """A thing that is no world's text."""


class NoTongue(PickError):
    """Worlds that are not of one tongue."""


class NoSaying(PickError):
    """A thing that is no saying's text."""


class NoMore(PickError):
    """A turn of play that is not to be had."""


class NoName(PickError):
    """A name that nothing bears."""

    def __init__(self, name):
        PickError.__init__(self, "nothing has this name")
        self.name = name


class NoLetter(PickError):
    """A free letter that stands at no point."""

    def __init__(self, letter):
        PickError.__init__(self, "a free letter stands at no point")
        self.letter = letter


class TooMany(PickError):
    """A number of things that is too great."""

    def __init__(self, many):
        PickError.__init__(self, "these are too many")
        self.many = many


class NoCount(PickError):
    """A thing that is no number within its bounds."""

    def __init__(self, told):
        PickError.__init__(self, "this is no number within the bounds")
        self.told = told


class NoPoint(PickError):
    """A thing that is no point there."""

    def __init__(self, point):
        PickError.__init__(self, "there is no such point")
        self.point = point


class NoRow(PickError):
    """A thing that is no row of the desk."""

    def __init__(self, row):
        PickError.__init__(self, "this is no row of the desk")
        self.row = row
