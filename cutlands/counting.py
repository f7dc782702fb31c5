"""Counting alone: how many lands there are by the numbers of flats, and the trace of a cutting on a cut."""

from cutlands.cuts import Cutting, first_place, is_cut, same_spots
from cutlands.errors import NoNumber
from cutlands.flats import flat_numbers, flats, numbers_in_order
from cutlands.lands import without_place
from cutlands.meets import rank
from cutlands.wholes import cleared, is_number_of, lowest


def dim_sums(cutting):
    """For each number of dims, from 0 on, the numbers of all flats of so many dims together."""
    sums = [0] * (cutting.dims() + 1)
    told = flats(cutting)
    for flat, number in zip(told, numbers_in_order(told)):
        sums[flat[0]] = sums[flat[0]] + number
    return sums


def how_many_lands(cutting):
    """How many lands there are."""
    return sum([abs(number) for number in flat_numbers(cutting)])


def how_many_bounded(cutting):
    """How many bounded lands there are."""
    if rank(cutting.cuts(), cutting.dims()) < cutting.dims():
        return 0
    return abs(sum(flat_numbers(cutting)))


def seen_on(cut, other):
    """The other cut as it is seen on a cut, with one number less, in lowest numbers."""
    place = first_place(cut)
    return lowest(without_place(cleared(other, cut, place), place))


def place_of_same(seen, one):
    """The place of the first cut of the same spots; None where there is none."""
    for place, other in enumerate(seen):
        if same_spots(other, one):
            return place
    return None


def trace(cutting, k):
    """A tuple of the trace of a cutting on a cut and, for each cut of the trace, of which cuts it comes."""
    dims = cutting.dims() - 1
    if dims == 0 or not is_number_of(k, cutting.many()):
        raise NoNumber("no number of a cut that has a trace")
    cuts = cutting.cuts()
    seen = []
    whence = []
    for number, other in enumerate(cuts):
        one = seen_on(cuts[k], other)
        # Of the cut itself nothing is left there, and nothing but c of one that goes beside it.
        if is_cut(dims, one):
            place = place_of_same(seen, one)
            if place is None:
                seen.append(one)
                whence.append([number])
            else:
                whence[place].append(number)
    return (Cutting(dims, seen), whence)
