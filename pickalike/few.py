"""Worlds alike by few letters, and sheets that part them."""

from pickalike.checks import need_count, need_small
from pickalike.layers import answered_still, layers_of, outcomes, pairs_with, parting_pick, peeled
from pickalike.pairings import pairings, rising
from pickalike.parts import Couple, leaf_apart, told_of_pick

FEW_LETTERS = ("x", "y", "z")


def parts_below(pairing, letters):
    """The parts of a pairing that have fewer pairs than there are letters, those of fewer pairs first."""
    told = [()]
    for pair in pairing:
        told = told + [part + (pair,) for part in told]
    return sorted([part for part in told if len(part) < letters], key=len)


def few_depths(one, other, letters):
    """For each pairing of at most so many pairs the first round that hasn't it, or None."""
    known = {pairing: True for pairing in pairings(one, other, letters)}
    rows = {pairing: outcomes(one, other, pairing, known) for pairing in known if len(pairing) < letters}
    all_rows = {pairing: [row for part in parts_below(pairing, letters) for row in rows[part]] for pairing in known}
    return peeled(all_rows, answered_still)


def few_rounds(one, other, letters):
    """The rounds by so many letters, from 0 on to the last that isn't the same as the one ahead of it."""
    need_small(one, other)
    need_count(letters, 1, len(FEW_LETTERS))
    depths = few_depths(one, other, letters)
    return layers_of(depths, max([depth for depth in depths.values() if depth is not None], default=0))


def least_part(depths, pairing, letters):
    """The least part of a pairing, of fewer pairs than there are letters, that goes at the same round as it."""
    return [part for part in parts_below(pairing, letters) if depths[part] == depths[pairing]][0]


class SheetMaker:
    """The rows of a sheet that were made so far, and in which place stands the row of which pairing."""

    def __init__(self, couple, letters):
        self.couple = couple
        self.most = letters
        self.rows = []
        self.places = {}

    def asked(self, seats):
        """What parts the pairs at which the letters stand: a leaf, or a row that was made."""
        depths = self.couple.depths
        pairing = rising(seats)
        if pairing not in depths:
            return leaf_apart(self.couple, seats)
        part = least_part(depths, pairing, self.most)
        self.make(part)
        return ("row", self.places[part], tuple([FEW_LETTERS[seats.index(pair)] for pair in part]))

    def make(self, pairing):
        """Makes the row that parts a pairing, behind all rows that it asks, if it isn't there."""
        if pairing in self.places:
            return
        couple = self.couple
        side, point = parting_pick(couple.one, couple.other, couple.depths, pairing)
        parts = [self.asked(pairing + (pair,)) for pair in pairs_with(couple.one, couple.other, side, point)]
        saying = told_of_pick(side, FEW_LETTERS[len(pairing)], parts)
        self.places[pairing] = len(self.rows)
        self.rows.append((FEW_LETTERS[:len(pairing)], saying))


def few_parting(one, other, letters):
    """A sheet by so many letters that holds of the first world and not of the second, or None."""
    need_small(one, other)
    need_count(letters, 1, len(FEW_LETTERS))
    depths = few_depths(one, other, letters)
    if depths[()] is None:
        return None
    maker = SheetMaker(Couple(one, other, depths, FEW_LETTERS), letters)
    maker.make(())
    return tuple(maker.rows)
