"""Spots, cuts, and cuttings made of them."""

from cutlands.errors import NoCutting, NoNumber, NoSpot
from cutlands.fractions import is_fraction
from cutlands.wholes import is_number_of, is_whole, sign_of

MOST_DIMS = 3
MOST_CUTS = 7


def is_dims(thing):
    """Whether anything at all is a number of dims that a cutting may have."""
    return is_whole(thing) and 1 <= thing <= MOST_DIMS


def is_spot(dims, thing):
    """Whether anything at all is a spot of so many dims."""
    if not isinstance(thing, tuple) or len(thing) != dims:
        return False
    return all([is_fraction(part) for part in thing])


def is_cut(dims, thing):
    """Whether anything at all is a cut of so many dims."""
    if not isinstance(thing, tuple) or len(thing) != dims + 1:
        return False
    if not all([is_whole(number) for number in thing]):
        return False
    return any([number != 0 for number in thing[:dims]])


def first_place(cut):
    """The place of the first number of a cut that is not 0."""
    place = 0
    while cut[place] == 0:
        place = place + 1
    return place


def same_spots(one, other):
    """Whether two cuts of the same dims go through just the same spots."""
    # That is so just where one cut is the other so often, c too. How often is settled at
    # a place where the first one is not 0, and then it must fit at all places.
    place = first_place(one)
    return all([mine * other[place] == theirs * one[place] for mine, theirs in zip(one, other)])


def side_of(cut, spot):
    """The side of a cut on which a spot lies: 1, 0 or -1."""
    # What is left stands as left over bottom, not in lowest terms: the bottom stays
    # above 0, so the sign of left alone is asked for.
    left = -cut[-1]
    bottom = 1
    for number, part in zip(cut[:-1], spot):
        left = left * part[1] + number * part[0] * bottom
        bottom = bottom * part[1]
    return sign_of(left)


def can_stand(dims, ahead, thing):
    """Whether anything at all can stand in a cutting behind the cuts ahead of it."""
    if len(ahead) >= MOST_CUTS or not is_cut(dims, thing):
        return False
    return not any([same_spots(cut, thing) for cut in ahead])


def checked_cuts(dims, things):
    """The cuts of a cutting as a tuple of their own, or NoCutting."""
    if not is_dims(dims) or not isinstance(things, list):
        raise NoCutting(-1)
    ahead = []
    for thing in things:
        if not can_stand(dims, ahead, thing):
            raise NoCutting(len(ahead))
        ahead.append(tuple(thing))
    return tuple(ahead)


class Cutting:
    """A space of one to three dims with none to seven cuts; it never changes."""

    def __init__(self, dims, cuts):
        self.own_cuts = checked_cuts(dims, cuts)
        self.own_dims = dims

    def dims(self):
        """How many dims the space has."""
        return self.own_dims

    def cuts(self):
        """The cuts, in a new list."""
        return list(self.own_cuts)

    def many(self):
        """How many cuts there are."""
        return len(self.own_cuts)

    def sides(self, spot):
        """The sides of all cuts on which a spot lies."""
        if not is_spot(self.own_dims, spot):
            raise NoSpot("no spot of the cutting's dims")
        return tuple([side_of(cut, spot) for cut in self.own_cuts])

    def without(self, k):
        """The cutting without the cut of a number."""
        if not is_number_of(k, len(self.own_cuts)):
            raise NoNumber("no number of a cut")
        return Cutting(self.own_dims, list(self.own_cuts[:k] + self.own_cuts[k + 1:]))

    def with_one(self, cut):
        """The cutting with one cut more behind the others."""
        return Cutting(self.own_dims, list(self.own_cuts) + [cut])
