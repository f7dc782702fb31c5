"""Where cuts meet, and what is known of rows of whole numbers by clearing one with another."""

from cutlands.errors import NoNumber
from cutlands.fractions import made, minus, over, times
from cutlands.wholes import cleared, common_divisor, is_number_of, lowest


def weighted(cuts):
    """The cuts as rows, each with weights behind it: 1 for itself, 0 for all others."""
    # Whatever rows are made of these by adding them up, their weights go along, and so
    # tell how often each cut stands in them.
    rows = []
    for k, cut in enumerate(cuts):
        weights = [0] * len(cuts)
        weights[k] = 1
        rows.append(cut + tuple(weights))
    return rows


def settled(row, pivots):
    """The row with 0 at the places of all pivots."""
    for place, pivot in pivots:
        row = cleared(row, pivot, place)
    return row


def with_pivot(pivots, row, place):
    """The pivots and a row more, which stands for a place that none of the others stands for."""
    return [(other_place, cleared(pivot, row, place)) for other_place, pivot in pivots] + [(place, row)]


def pivots_and_rests(rows, dims):
    """A tuple of the pivots of the rows, and of what is left of those that the others tell.

    The pivots are pairs (place, row): the row is not 0 at its place, all others are. What is
    left has 0 at all d places.
    """
    pivots = []
    rests = []
    for row in rows:
        left = settled(row, pivots)
        places = [place for place in range(dims) if left[place] != 0]
        if places == []:
            rests.append(left)
        else:
            pivots = with_pivot(pivots, left, places[0])
    return (pivots, rests)


def free_places(pivots, dims):
    """The places for which no pivot stands."""
    taken = [place for place, pivot in pivots]
    return [place for place in range(dims) if place not in taken]


def rank(rows, dims):
    """How many of the rows are not told by the others at the d places."""
    return len(pivots_and_rests(rows, dims)[0])


def left_for(row, parts):
    """What is left of a row's c when its numbers times the parts are taken from it."""
    left = (row[len(parts)], 1)
    for number, part in zip(row, parts):
        left = minus(left, times((number, 1), part))
    return left


def filled(pivots, parts):
    """The spot on all pivots with these parts at the free places; the parts have nought at the others."""
    spot = list(parts)
    for place, pivot in pivots:
        spot[place] = over(left_for(pivot, parts), (pivot[place], 1))
    return tuple(spot)


def whole_way(parts):
    """The way of whole numbers that goes along with fractions, not all nought."""
    bottoms = 1
    for part in parts:
        bottoms = bottoms * part[1] // common_divisor(bottoms, part[1])
    return lowest(tuple([part[0] * (bottoms // part[1]) for part in parts]))


def way_along(pivots, dims, free):
    """The way along all pivots on which of the free places this one alone changes."""
    parts = [(0, 1)] * dims
    parts[free] = (1, 1)
    for place, pivot in pivots:
        parts[place] = made(-pivot[free], pivot[place])
    return whole_way(parts)


def ways_along(pivots, dims):
    """As many ways along all pivots as there are, none told by the others."""
    return [way_along(pivots, dims, free) for free in free_places(pivots, dims)]


def are_numbers_of_cuts(cutting, thing):
    """Whether anything at all is a list of unlike numbers of cuts."""
    if not isinstance(thing, list):
        return False
    if not all([is_number_of(k, cutting.many()) for k in thing]):
        return False
    return len(set(thing)) == len(thing)


def meet(cutting, some):
    """Where the cuts of some numbers meet: ("met", spot, ways) or ("apart", weights)."""
    if not are_numbers_of_cuts(cutting, some):
        raise NoNumber("no list of unlike numbers of cuts")
    dims = cutting.dims()
    cuts = cutting.cuts()
    found = pivots_and_rests(weighted([cuts[k] for k in some]), dims)
    for rest in found[1]:
        if rest[dims] != 0:
            return ("apart", list(rest[dims + 1:]))
    pivots = found[0]
    return ("met", filled(pivots, [(0, 1)] * dims), ways_along(pivots, dims))
