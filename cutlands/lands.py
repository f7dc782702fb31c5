"""The lands of a cutting, found by one cut behind another.

Within this module a point is a tuple of whole numbers: a spot's parts, each times one number
from 1 on, and this number behind them. What is left at a cut is then a whole number, so often
what is left of the spot, and has the same sign.
"""

from cutlands.errors import NoLand, NoNumber
from cutlands.fractions import made
from cutlands.signs import check_signs, held
from cutlands.wholes import cleared, dot, is_number_of, lowest, sign_of


def left_at(cut, point):
    """What is left when c is taken from the sum of a cut's d numbers times the point's parts."""
    return dot(cut[:-1], point[:-1]) - cut[-1] * point[-1]


def point_off(ahead, cut, point, sign):
    """A point at a side of the cut on which the given one lies, and with its sides of the cuts ahead."""
    # A step along the cut's own numbers leads off it. The point is taken so often that the step
    # is too short to turn what is left at a cut ahead, which is never 0.
    often = 1
    for other in ahead:
        step = abs(dot(other[:-1], cut[:-1]))
        often = max(often, step // abs(left_at(other, point)) + 1)
    parts = [often * part + sign * number for part, number in zip(point[:-1], cut[:-1])]
    return lowest(tuple(parts) + (often * point[-1],))


def without_place(row, place):
    """The tuple without the number at a place."""
    return row[:place] + row[place + 1:]


def point_on(cut, place, point):
    """The point on the cut that is the given one but for a part at a place, which that one has not."""
    often = abs(cut[place])
    part = -sign_of(cut[place]) * left_at(without_place(cut, place), point)
    others = tuple([often * number for number in point])
    return lowest(others[:place] + (part,) + others[place:])


def crossings(ahead, cut):
    """Pairs (signs, point): the lands of the cuts ahead through which a cut goes, and a point on it in each."""
    places = [place for place, number in enumerate(cut[:-1]) if number != 0]
    if places == []:
        return []
    place = places[0]
    traces = [without_place(cleared(other, cut, place), place) for other in ahead]
    # All spots of the cut lie on a cut ahead of which nothing is left, so none lies in a land.
    if any([not any(trace) for trace in traces]):
        return []
    return [(signs, point_on(cut, place, point)) for signs, point in cells(traces, len(cut) - 2)]


def with_one_more(found, ahead, cut):
    """The pairs (signs, point) of the lands of the cuts ahead, with a cut more that parts some of them."""
    crossed = dict(crossings(ahead, cut))
    grown = []
    for signs, point in found:
        if signs in crossed:
            for sign in (-1, 1):
                grown.append((signs + (sign,), point_off(ahead, cut, crossed[signs], sign)))
        else:
            grown.append((signs + (sign_of(left_at(cut, point)),), point))
    return grown


def cells(cuts, dims):
    """Pairs (signs, point) of all lands, in order, and a point in each.

    The cuts may be such as are left within another cut: of no dims at all, several through the
    same spots, and with d numbers that are all 0 where c is not.
    """
    found = [((), (0,) * dims + (1,))]
    for k, cut in enumerate(cuts):
        found = with_one_more(found, cuts[:k], cut)
    return found


def spot_at(point):
    """The spot at a point."""
    return tuple([made(part, point[-1]) for part in point[:-1]])


def lands(cutting):
    """All lands, in order."""
    return [signs for signs, point in cells(cutting.cuts(), cutting.dims())]


def land_spots(cutting):
    """A spot in each land, in the order of the lands."""
    return [spot_at(point) for signs, point in cells(cutting.cuts(), cutting.dims())]


def land_at(cutting, number):
    """The land of a number."""
    told = lands(cutting)
    if not is_number_of(number, len(told)):
        raise NoNumber("no number of a land")
    return told[number]


def check_land(cutting, signs):
    """Refuses what is no signs of a cutting, then what is no land of it."""
    check_signs(cutting, signs)
    if 0 in signs or held(cutting, signs)[0] != "spot":
        raise NoLand("signs of no land")


def number_of(cutting, signs):
    """The number of a land."""
    check_land(cutting, signs)
    return lands(cutting).index(signs)


def land_of(cutting, spot):
    """The land in which a spot lies."""
    sides = cutting.sides(spot)
    if 0 in sides:
        raise NoLand("the spot lies on a cut")
    return sides


def split(cutting):
    """For each cut through how many lands of the cuts ahead of it it goes."""
    cuts = cutting.cuts()
    return [len(crossings(cuts[:k], cut)) for k, cut in enumerate(cuts)]


def gone_through(cutting, k):
    """The lands of the cutting without the cut of a number through which that cut goes, in order."""
    others = cutting.without(k).cuts()
    return [signs for signs, point in crossings(others, cutting.cuts()[k])]
