"""Sheets: rows of sayings, in which earlier rows may stand."""

from pickalike.sayings import Part, depth_behind, part_holds


def sheet_depth(sheet):
    """The depth of the last row."""
    depths = []
    for letters, saying in sheet:
        depths.append(depth_behind(saying, depths))
    return depths[-1]


def choices(many, length):
    """All tuples of this length of so many points."""
    told = [()]
    for step in range(length):
        told = [points + (point,) for points in told for point in range(many)]
    return told


def table_of(world, letters, part):
    """For all points at the letters of a row, whether it holds."""
    return {points: part_holds(world, part, dict(zip(letters, points))) for points in choices(world[0], len(letters))}


def sheet_holds(world, sheet):
    """Whether the last row holds of the world."""
    # Each row is reckoned once for all points, from the first on: a later one that asks it often, and a long chain
    # of rows that ask one another, only look it up.
    tables = []
    for letters, saying in sheet:
        tables.append(table_of(world, letters, Part(saying, tables)))
    return tables[-1][()]
