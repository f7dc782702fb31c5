"""Wanted signs: a spot that has them, or a paper that none has.

A row is d numbers, c, and weights, as in cutlands.meets. It asks of the parts of a spot that
its d numbers times the parts come to more than c (or, where a module says so, to no less).
"""

from cutlands.errors import NoSigns
from cutlands.fractions import ceiling_of, floor_of, less, over
from cutlands.meets import filled, free_places, left_for, pivots_and_rests, settled, weighted
from cutlands.wholes import cleared, dot, is_whole, sign_of


def is_signs(many, thing):
    """Whether anything at all is signs of so many cuts."""
    if not isinstance(thing, tuple) or len(thing) != many:
        return False
    return all([is_whole(sign) and -1 <= sign <= 1 for sign in thing])


def check_signs(cutting, thing):
    """Refuses what is no signs of a cutting."""
    if not is_signs(cutting.many(), thing):
        raise NoSigns("no signs of the cutting")


def is_weights(many, thing):
    """Whether anything at all is a list of so many whole numbers."""
    if not isinstance(thing, list) or len(thing) != many:
        return False
    return all([is_whole(weight) for weight in thing])


def taken_often(rows, weights, width):
    """The rows so often, added up number by number, at the first places of them."""
    return [dot(weights, [row[place] for row in rows]) for place in range(width)]


def turned(row, sign):
    """The row, turned where the sign is -1."""
    return tuple([sign * number for number in row])


def shadow(rows, dims, place, most):
    """What the rows ask of a spot's parts, whatever stands at a place: rows with 0 there."""
    told = {}
    for row in rows:
        if row[place] == 0:
            told[row] = True
    for one in [row for row in rows if row[place] > 0]:
        for other in [row for row in rows if row[place] < 0]:
            joined = cleared(one, other, place)
            if len([weight for weight in joined[dims + 1:] if weight != 0]) <= most:
                told[joined] = True
    return list(told)


def shadows(rows, dims, places, pivots):
    """The rows, and what is left of them without the first of the places, the first two, and so on."""
    # A row without some places that is made of more cuts than one for each of these places,
    # one besides, and the pivots, is told by such as are made of fewer: it can be left out.
    layers = [rows]
    for place in places:
        most = len(layers) + 1 + len(pivots)
        layers.append(shadow(layers[-1], dims, place, most))
    return layers


def ends_at(rows, place, parts):
    """Between which ends the rows want a spot's part at a place, None for no end; the parts have nought there."""
    low = None
    high = None
    for row in rows:
        if row[place] != 0:
            end = over(left_for(row, parts), (row[place], 1))
            if row[place] > 0 and (low is None or less(low, end)):
                low = end
            if row[place] < 0 and (high is None or less(end, high)):
                high = end
    return (low, high)


def whole_between(low, high):
    """A whole number above low and below high, the nearest to nought; None where there is none."""
    whole = 0
    if low is not None and low[0] >= 0:
        whole = floor_of(low) + 1
    elif high is not None and high[0] <= 0:
        whole = ceiling_of(high) - 1
    if low is not None and not less(low, (whole, 1)):
        return None
    if high is not None and not less((whole, 1), high):
        return None
    return whole


def one_between(low, high):
    """The fraction above low and below high with the least bottom, so that what is told stays short."""
    # Directions may lie on their ends, and then have nothing else where both are the same.
    if low is not None and low == high:
        return low
    # Where no whole number lies between, the floor of low is taken off all, and what is sought
    # is 1 over one that lies between 1 over both. All stays in lowest terms.
    floors = []
    whole = whole_between(low, high)
    while whole is None:
        floor = floor_of(low)
        floors.append(floor)
        rest = low[0] - floor * low[1]
        over_rest = None if rest == 0 else (low[1], rest)
        low = (high[1], high[0] - floor * high[1])
        high = over_rest
        whole = whole_between(low, high)
    found = (whole, 1)
    for floor in reversed(floors):
        found = (floor * found[0] + found[1], found[0])
    return found


def parts_within(layers, places, parts):
    """The parts with such ones at the places as all layers want; they have nought there."""
    chosen = list(parts)
    for number, place in reversed(list(enumerate(places))):
        ends = ends_at(layers[number], place, chosen)
        chosen[place] = one_between(ends[0], ends[1])
    return chosen


def paper_of_noughts(rests, dims):
    """A paper out of cuts that all want 0 and are apart; None where there is none."""
    for rest in rests:
        if rest[dims] != 0:
            return list(turned(rest, sign_of(rest[dims]))[dims + 1:])
    return None


def parts_or_weights(cuts, dims, signs):
    """What held tells, of cuts of any dims, of which some may go through the same spots."""
    rows = weighted(cuts)
    found = pivots_and_rests([row for row, sign in zip(rows, signs) if sign == 0], dims)
    paper = paper_of_noughts(found[1], dims)
    if paper is not None:
        return ("paper", paper)
    pivots = found[0]
    sided = [settled(turned(row, sign), pivots) for row, sign in zip(rows, signs) if sign != 0]
    places = free_places(pivots, dims)
    layers = shadows(sided, dims, places, pivots)
    for row in layers[-1]:
        # Nothing is left of its d numbers, so it wants 0 to be more than c.
        if row[dims] >= 0:
            return ("paper", list(row[dims + 1:]))
    return ("spot", filled(pivots, parts_within(layers, places, [(0, 1)] * dims)))


def held(cutting, signs):
    """A spot that has the signs, ("spot", spot), or a paper that none has, ("paper", weights)."""
    check_signs(cutting, signs)
    return parts_or_weights(cutting.cuts(), cutting.dims(), signs)


def may_weigh(sign, weight):
    """Whether a paper may give a cut that wants a sign this weight."""
    return sign == 0 or weight == 0 or sign_of(weight) == sign


def shows_none(cutting, signs, thing):
    """Whether anything at all is a right paper that no spot has the signs."""
    check_signs(cutting, signs)
    if not is_weights(cutting.many(), thing):
        return False
    if not all([may_weigh(sign, weight) for sign, weight in zip(signs, thing)]):
        return False
    dims = cutting.dims()
    come_to = taken_often(cutting.cuts(), thing, dims + 1)
    if any(come_to[:dims]):
        return False
    if come_to[dims] != 0:
        return come_to[dims] > 0
    return any([sign != 0 and weight != 0 for sign, weight in zip(signs, thing)])
