"""Which lands are bounded, and between which numbers a land lies."""

from cutlands.lands import check_land, lands
from cutlands.meets import rank, weighted, whole_way
from cutlands.signs import ends_at, is_weights, parts_within, shadows, taken_often, turned
from cutlands.wholes import cleared, dot, is_whole


def land_rows(cutting, signs):
    """The cuts with their weights behind them, all turned by the land's signs: what its spots keep."""
    return [turned(row, sign) for row, sign in zip(weighted(cutting.cuts()), signs)]


def level_rows(cutting, signs):
    """The land's rows with 0 in the place of c: a direction without end comes to 0 or more at each."""
    dims = cutting.dims()
    return [row[:dims] + (0,) + row[dims + 1:] for row in land_rows(cutting, signs)]


def other_places(dims, place):
    """All places but one."""
    return [other for other in range(dims) if other != place]


def layers_down_to(rows, dims, place):
    """The rows in layers, of which the last asks of the part at one place alone."""
    return shadows(rows, dims, other_places(dims, place), [])


def stop_of(layers, place, sign):
    """A row of the last layer that keeps directions from having the sign at the place; None where none does."""
    for row in layers[-1]:
        if row[place] * sign < 0:
            return row
    return None


def direction_within(layers, dims, place, sign):
    """A direction that all layers allow, with the sign at the place."""
    parts = [(0, 1)] * dims
    parts[place] = (sign, 1)
    return whole_way(parts_within(layers, other_places(dims, place), parts))


def bounding_weights(rows, stops, signs, dims):
    """Weights from 1 on by which the rows come to 0 at all places, made out of a stop each way at each place."""
    # All rows once give each a weight from 1 on; stops, whose weights are from 0 on, then bring
    # them to 0, place by place. The rows were turned together with their weights.
    row = tuple(taken_often(rows, [1] * len(rows), len(rows[0])))
    for place in range(dims):
        sign = 1 if row[place] > 0 else -1
        row = cleared(row, stops[(place, sign)], place)
    return [turn * weight for turn, weight in zip(signs, row[dims + 1:])]


def reach(cutting, signs):
    """Weights that show that the land is bounded, ("bounded", weights), or else ("far", direction)."""
    check_land(cutting, signs)
    dims = cutting.dims()
    rows = level_rows(cutting, signs)
    stops = {}
    for place in range(dims):
        layers = layers_down_to(rows, dims, place)
        for sign in (1, -1):
            stop = stop_of(layers, place, sign)
            if stop is None:
                return ("far", direction_within(layers, dims, place, sign))
            stops[(place, sign)] = stop
    return ("bounded", bounding_weights(rows, stops, signs, dims))


def shows_bounded(cutting, signs, thing):
    """Whether anything at all is right weights that the land is bounded."""
    check_land(cutting, signs)
    if not is_weights(cutting.many(), thing) or any([weight < 1 for weight in thing]):
        return False
    dims = cutting.dims()
    cuts = cutting.cuts()
    come_to = taken_often([turned(cut, sign) for cut, sign in zip(cuts, signs)], thing, dims)
    return not any(come_to) and rank(cuts, dims) == dims


def is_direction(dims, thing):
    """Whether anything at all is a direction of so many dims."""
    if not isinstance(thing, tuple) or len(thing) != dims:
        return False
    return all([is_whole(number) for number in thing]) and any([number != 0 for number in thing])


def shows_far(cutting, signs, thing):
    """Whether anything at all is a direction in which the land has no end."""
    check_land(cutting, signs)
    if not is_direction(cutting.dims(), thing):
        return False
    return all([sign * dot(cut[:-1], thing) >= 0 for cut, sign in zip(cutting.cuts(), signs)])


def bounded_lands(cutting):
    """All bounded lands, in order."""
    return [signs for signs in lands(cutting) if reach(cutting, signs)[0] == "bounded"]


def box(cutting, signs):
    """For each dim the ends (low, high) between which the land's spots lie, None for no end."""
    check_land(cutting, signs)
    dims = cutting.dims()
    rows = land_rows(cutting, signs)
    noughts = [(0, 1)] * dims
    return [ends_at(layers_down_to(rows, dims, place)[-1], place, noughts) for place in range(dims)]
