"""What the tests reckon for themselves, by other ways than the program's, and the cuttings that they ask of."""

import functools
import itertools
import random
from fractions import Fraction

from anything import things_of_no_number
from cutlands.cuts import Cutting

BIG = 10 ** 60 - 1


def left_at(cut, spot):
    """What is left when c is taken from the sum of the cut's numbers times the parts, these being Fractions."""
    return sum(number * part for number, part in zip(cut, spot)) - cut[-1]


def sign(number):
    return (number > 0) - (number < 0)


def sides(cuts, spot):
    return tuple(sign(left_at(cut, spot)) for cut in cuts)


def as_fractions(spot):
    return tuple(Fraction(*part) for part in spot)


def as_spot(parts):
    return tuple((Fraction(part).numerator, Fraction(part).denominator) for part in parts)


def rank(rows):
    """How many rows are not told by the others, by plain elimination in Fractions."""
    rows = [[Fraction(number) for number in row] for row in rows]
    found = 0
    for place in range(len(rows[0]) if rows else 0):
        best = next((k for k in range(found, len(rows)) if rows[k][place]), None)
        if best is not None:
            rows[found], rows[best] = rows[best], rows[found]
            for k in range(found + 1, len(rows)):
                often = rows[k][place] / rows[found][place]
                rows[k] = [mine - often * theirs for mine, theirs in zip(rows[k], rows[found])]
            found += 1
    return found


def taken_often(cuts, weights):
    """The cuts so often, added up number by number."""
    return [sum(weight * number for weight, number in zip(weights, column)) for column in zip(*cuts)]


# All sides that spots have are found by heights: what lies above a spot of the last dim but
# one changes only where two cuts cross, so one spot for each stretch between these will do.

def heights(cuts):
    """The cuts' crossings, looked at without the last dim: rows among which the order of the cuts stays."""
    flat = {}
    for cut in cuts:
        if cut[-2] == 0:
            flat[scaled(cut[:-2] + cut[-1:])] = True
    slanted = [cut for cut in cuts if cut[-2] != 0]
    for one, other in itertools.combinations(slanted, 2):
        row = [mine * other[-2] - theirs * one[-2] for mine, theirs in zip(one, other)]
        row = tuple(row[:-2] + row[-1:])
        if any(row[:-1]):
            flat[scaled(row)] = True
    return list(flat)


def scaled(row):
    first = next(number for number in row if number)
    return tuple(Fraction(number) / first for number in row)


def stretches(points, whole):
    """A number in each stretch between the points; each point too, unless only the stretches are asked for."""
    points = sorted(set(points))
    if not points:
        return [Fraction(0)]
    told = [points[0] - 1]
    for low, high in zip(points, points[1:]):
        told.extend([low, (low + high) / 2])
    told.extend([points[-1], points[-1] + 1])
    return told if whole else told[::2]


def samples(cuts, dims, whole=True):
    """Spots of which some have each row of sides that any spot has (unless whole: each without 0)."""
    if dims == 1:
        for part in stretches([Fraction(cut[1]) / cut[0] for cut in cuts], whole):
            yield (part,)
        return
    for parts in samples(heights(cuts), dims - 1, whole):
        points = [-left_at(cut[:-2] + cut[-1:], parts) / cut[-2] for cut in cuts if cut[-2] != 0]
        for part in stretches(points, whole):
            yield parts + (part,)


def all_faces(cuts, dims):
    """All rows of sides that spots have, each with a spot."""
    return {sides(cuts, spot): spot for spot in samples(cuts, dims)}


def all_lands(cuts, dims):
    """All rows of sides without 0 that spots have, in order."""
    return sorted({sides(cuts, spot) for spot in samples(cuts, dims, whole=False)})


def turning_points(cuts, dims):
    """The numbers of the first dim at which anything changes."""
    while dims > 1:
        cuts = heights(cuts)
        dims -= 1
    return sorted({Fraction(cut[1]) / cut[0] for cut in cuts})


def ends_of_lands(cuts, dims, place):
    """For each land the ends between which its spots lie in one dim, None for no end."""
    first = [(cut[place],) + cut[:place] + cut[place + 1:] for cut in cuts]
    points = turning_points(first, dims)
    parts = {}
    for spot in samples(first, dims, whole=False):
        parts.setdefault(sides(first, spot), []).append(spot[0])
    return {
        land: (max((point for point in points if point < min(told)), default=None),
               min((point for point in points if point > max(told)), default=None))
        for land, told in parts.items()
    }


def choices(many):
    """All choices of the numbers of so many things, as rising tuples."""
    for length in range(many + 1):
        yield from itertools.combinations(range(many), length)


def flat_on(cuts, dims, some):
    """The flat (dim, cuts) that some cuts have in common, None where they have nothing, by ranks alone."""
    chosen = [cuts[k] for k in some]
    rows = rank(chosen)
    if rank([cut[:dims] for cut in chosen]) != rows:
        return None
    return (dims - rows, tuple(k for k, cut in enumerate(cuts) if rank(chosen + [cut]) == rows))


def all_flats(cuts, dims):
    """All flats, each with its number: the choices of cuts that come to it, those of odd length taken off."""
    found = {}
    for some in choices(len(cuts)):
        flat = flat_on(cuts, dims, some)
        if flat is not None:
            found[flat] = found.get(flat, 0) + (-1) ** len(some)
    return found


def weights_of_noughts(rows):
    """Weights, not all 0, by which the rows come to noughts, in Fractions; None where there are none."""
    left = []
    for k, row in enumerate(rows):
        row = [Fraction(number) for number in row]
        weights = [Fraction(k == other) for other in range(len(rows))]
        for place, pivot, often in left:
            step = row[place] / pivot[place]
            row = [mine - step * theirs for mine, theirs in zip(row, pivot)]
            weights = [mine - step * theirs for mine, theirs in zip(weights, often)]
        place = next((place for place, number in enumerate(row) if number), None)
        if place is None:
            return weights
        left.append((place, row, weights))
    return None


def circuits(spots):
    return circuits_of(tuple(spots))


@functools.cache
def circuits_of(spots):
    """Weights by which the spots, each with a 1 behind it, come to noughts, and those with weights are needed for it.

    All weights by which spots come to noughts are sums of such ones with nowhere unlike signs.
    """
    rows = [as_fractions(spot) + (Fraction(1),) for spot in spots]
    found = []
    for some in choices(len(spots)):
        chosen = [rows[k] for k in some]
        if len(some) > 1 and rank(chosen) == len(some) - 1:
            weights = weights_of_noughts(chosen)
            if all(weights):
                row = [Fraction(0)] * len(spots)
                for k, weight in zip(some, weights):
                    row[k] = weight
                found.append(row)
    return found


def is_drawn(found, row):
    """Whether some cut draws a row: whether no circuit, turned or not, shows that none does."""
    for weights in found:
        for turn in (1, -1):
            products = [turn * weight * mark for weight, mark in zip(weights, row)]
            if all(product >= 0 for product in products) and any(products):
                return False
    return True


LINE_CUTS = [(1, 0), (1, 1), (-2, 3), (3, -4), (1, -5), (7, 2), (-1, 9)]
PLANE_CUTS = [(1, 0, 3), (2, -1, 3), (0, 1, 0), (0, -2, 5), (1, 1, 0), (-3, 2, 1), (1, 0, 4)]
SPACE_CUTS = [
    (1, 0, 0, 0), (0, 1, 0, 0), (0, 0, 1, 0), (1, 1, 1, 1), (2, -3, 5, 7), (0, 0, -1, 4), (1, 1, 1, 2),
]
CUTS_OF_DIMS = {1: LINE_CUTS, 2: PLANE_CUTS, 3: SPACE_CUTS}

SIDE_BY_SIDE = {
    1: [(2, 1), (-2, 1), (4, 3)],
    2: [(1, 2, 0), (2, 4, 1), (-1, -2, 3), (3, 6, -4)],
    3: [(1, -1, 2, 0), (-2, 2, -4, 3), (1, -1, 2, 5), (3, -3, 6, 1)],
}
THROUGH_ONE_SPOT = {
    1: [(5, 3)],
    2: [(1, 0, 1), (0, 1, 2), (1, 1, 3), (-1, 1, 1), (2, 1, 4)],
    3: [(1, 0, 0, 1), (0, 1, 0, 1), (0, 0, 1, 1), (1, 1, 1, 3), (1, -1, 0, 0)],
}
MIXED = {
    1: [(-1, 0), (2, 7), (-3, 5), (1, 10)],
    2: [(1, 0, 0), (1, 0, 1), (0, 1, 0), (0, -1, -1), (1, -1, 0), (1, 1, 1)],
    3: [(1, 0, 0, 0), (-1, 0, 0, -1), (0, 1, 0, 0), (0, 1, 0, 1), (1, 1, 0, 1)],
}
LYING_ALONG_ONE_WAY = {
    2: [(1, 1, 0), (1, 1, 2)],
    3: [(1, 1, 0, 0), (1, -1, 0, 0), (0, 1, 0, 1), (2, 1, 0, 3)],
}
# Several through all that two ahead of them have in common, and one that is not.
THROUGH_WHAT_TWO_HAVE = {
    2: [(1, 1, 0), (1, -1, 2), (2, 0, 2), (0, 3, -3), (1, 0, 5)],
    3: [(1, 0, 2, 1), (0, 1, 0, 1), (1, 1, 2, 2), (-1, 2, -2, 1), (0, 0, 1, 0)],
}
GREAT = {
    1: [(BIG, 1), (BIG - 1, 1), (-BIG, BIG - 2), (1, BIG)],
    2: [(BIG, BIG - 1, 1), (BIG - 1, BIG - 2, 1), (-1, BIG, BIG - 5), (BIG, BIG - 1, 2)],
    3: [(BIG, BIG - 1, BIG - 3, 1), (BIG - 1, 7, -BIG, 10 ** 59), (1, -BIG, BIG - 2, 0), (-BIG, 1 - BIG, 3 - BIG, 5)],
}


def by_chance(seed, dims, many, size):
    """A cutting's cuts, drawn alike each time."""
    draw = random.Random(seed)
    cuts = []
    while len(cuts) < many:
        cut = tuple(draw.randint(-size, size) for place in range(dims + 1))
        if any(cut[:dims]) and all(rank([cut, other]) == 2 for other in cuts):
            cuts.append(cut)
    return cuts


def small_cuttings():
    """Tuples (dims, cuts): few enough cuts that all rows of signs can be asked for."""
    told = []
    for dims in (1, 2, 3):
        told.extend((dims, CUTS_OF_DIMS[dims][:many]) for many in range(5))
        for kind in (SIDE_BY_SIDE, THROUGH_ONE_SPOT, MIXED, LYING_ALONG_ONE_WAY, THROUGH_WHAT_TWO_HAVE):
            if dims in kind:
                told.append((dims, kind[dims][:5]))
        told.extend((dims, by_chance(seed, dims, 4, 2)) for seed in range(6))
        told.append((dims, by_chance(7, dims, 4, 50)))
    return told


def great_cuttings():
    """Tuples (dims, cuts) with numbers of sixty figures."""
    told = [(dims, GREAT[dims]) for dims in (1, 2, 3)]
    told.extend((dims, by_chance(seed, dims, 4, BIG)) for dims in (1, 2, 3) for seed in (1, 2))
    return told


def full_cuttings():
    """Tuples (dims, cuts) of five to seven cuts."""
    told = []
    for dims in (1, 2, 3):
        told.extend((dims, CUTS_OF_DIMS[dims][:many]) for many in (5, 6, 7))
        told.append((dims, by_chance(11, dims, 7, 9)))
    told.append((2, by_chance(12, 2, 7, 2)))
    told.append((2, MIXED[2] + [(1, -1, 1)]))
    told.append((3, by_chance(12, 3, 6, 1)))
    told.append((3, MIXED[3] + [(0, 0, 1, 0), (0, 0, 1, 1)]))
    told.append((3, THROUGH_ONE_SPOT[3] + [(1, 2, 3, 6), (0, 1, -1, 0)]))
    told.append((3, THROUGH_WHAT_TWO_HAVE[3] + [(0, 0, 1, 2), (3, 1, 6, 4)]))
    return told


def made(dims, cuts):
    return Cutting(dims, list(cuts))


def changed_at_one_place(thing, steps=(1, -1)):
    """The list or tuple, each time with another number at one place."""
    for place in range(len(thing)):
        for step in steps:
            other = list(thing)
            other[place] += step
            yield thing.__class__(other)


def all_rows(many):
    """All rows of so many signs."""
    return itertools.product((-1, 0, 1), repeat=many)


def wrong_signs(many):
    """Things that are no signs of so many cuts."""
    yield from [0, 1, -1, [1] * many, [0] * many, "1" * many, (1,) * (many + 1), (0,) * (many + 1)]
    for thing in things_of_no_number():
        if not isinstance(thing, tuple) or len(thing) != many:
            yield thing
        yield (1,) * many + (thing,)
    if many:
        yield (1,) * (many - 1)
        for place in range(many):
            for thing in [2, -2, BIG, -BIG, 3] + things_of_no_number():
                row = [1] * many
                row[place] = thing
                yield tuple(row)
