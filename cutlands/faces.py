"""Faces: all signs that spots have, and what lies beside, at the edge of and between two of them."""

from cutlands.errors import NoFace, NoNumber
from cutlands.flats import flats
from cutlands.fractions import minus, over, plus, times
from cutlands.lands import cells
from cutlands.meets import free_places, left_for, pivots_and_rests, rank, settled
from cutlands.signs import held
from cutlands.wholes import is_number_of


def with_noughts(signs, noughts):
    """The signs with a 0 more at each of the places, which rise."""
    for k in noughts:
        signs = signs[:k] + (0,) + signs[k:]
    return signs


def faces_on(cutting, flat):
    """The faces that have 0 at just the cuts in which a flat lies: the lands of the other cuts, as seen on it."""
    dims = cutting.dims()
    cuts = cutting.cuts()
    pivots = pivots_and_rests([cuts[k] for k in flat[1]], dims)[0]
    places = free_places(pivots, dims) + [dims]
    others = [settled(cut, pivots) for k, cut in enumerate(cuts) if k not in flat[1]]
    seen = [tuple([row[place] for place in places]) for row in others]
    return [with_noughts(signs, flat[1]) for signs, point in cells(seen, flat[0])]


def faces(cutting):
    """All faces, in order."""
    told = []
    for flat in flats(cutting):
        told.extend(faces_on(cutting, flat))
    return sorted(told)


def face_spot(cutting, signs):
    """A spot of a face; refuses what is no signs of a cutting (as held does), then what is no face of it."""
    answer = held(cutting, signs)
    if answer[0] != "spot":
        raise NoFace("signs of no face")
    return answer[1]


def check_faces(cutting, one, other):
    """Refuses what is no signs or no face, the first ahead of the second."""
    face_spot(cutting, one)
    face_spot(cutting, other)


def face_dims(cutting, signs):
    """The dims of a face."""
    face_spot(cutting, signs)
    noughts = [cut for cut, sign in zip(cutting.cuts(), signs) if sign == 0]
    return cutting.dims() - rank(noughts, cutting.dims())


def face_counts(cutting):
    """How many faces have 0 dims, 1, and so on."""
    counts = [0] * (cutting.dims() + 1)
    for flat in flats(cutting):
        counts[flat[0]] = counts[flat[0]] + len(faces_on(cutting, flat))
    return counts


def beside(cutting, one, other):
    """The face to which one comes from the first, a little way towards the second."""
    check_faces(cutting, one, other)
    return tuple([theirs if mine == 0 else mine for mine, theirs in zip(one, other)])


def at_edge(cutting, one, other):
    """Whether the first face lies at the edge of the second, or is it."""
    check_faces(cutting, one, other)
    return all([mine == 0 or mine == theirs for mine, theirs in zip(one, other)])


def spot_on_the_way(cut, one, other):
    """The spot of a cut that lies straight between two spots on its two sides."""
    left = left_for(cut, one)
    share = over(left, minus(left, left_for(cut, other)))
    return tuple([plus(mine, times(share, minus(theirs, mine))) for mine, theirs in zip(one, other)])


def between(cutting, one, other, k):
    """A face on the cut of a number, which parts both faces, on a straight way from the first to the second."""
    one_spot = face_spot(cutting, one)
    other_spot = face_spot(cutting, other)
    if not is_number_of(k, cutting.many()) or one[k] * other[k] != -1:
        raise NoNumber("no number of a cut that parts the two faces")
    return cutting.sides(spot_on_the_way(cutting.cuts()[k], one_spot, other_spot))
