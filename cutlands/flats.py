"""Flats: what some cuts have in common, and the number of each."""

from cutlands.errors import NoNumber
from cutlands.meets import are_numbers_of_cuts, pivots_and_rests, settled


def flat_on(cuts, dims, some):
    """The flat that the cuts of some numbers have in common; None where they have nothing."""
    found = pivots_and_rests([cuts[k] for k in some], dims)
    if any([any(rest) for rest in found[1]]):
        return None
    pivots = found[0]
    # A cut of which the pivots leave nothing goes through all of the flat, whether it was asked for or not.
    around = [k for k, cut in enumerate(cuts) if not any(settled(cut, pivots))]
    return (dims - len(pivots), tuple(around))


def flats(cutting):
    """All flats, by falling dims, those of one dim in the order of their cuts."""
    cuts = cutting.cuts()
    dims = cutting.dims()
    found = {flat_on(cuts, dims, []): True}
    for k in range(len(cuts)):
        for flat in list(found):
            smaller = flat_on(cuts, dims, flat[1] + (k,))
            if smaller is not None:
                found[smaller] = True
    return sorted(list(found), key=lambda flat: (-flat[0], flat[1]))


def flat_of(cutting, some):
    """The flat that the cuts of some numbers have in common; None where they have nothing."""
    if not are_numbers_of_cuts(cutting, some):
        raise NoNumber("no list of unlike numbers of cuts")
    return flat_on(cutting.cuts(), cutting.dims(), some)


def lies_in(flat, other):
    """Whether a flat lies in another one."""
    return all([k in flat[1] for k in other[1]])


def numbers_in_order(told):
    """The numbers of all flats of a cutting, which stand by falling dims."""
    # All flats in which one lies have more dims, so their numbers are known by then.
    numbers = [1]
    for flat in told[1:]:
        around = [number for other, number in zip(told, numbers) if lies_in(flat, other)]
        numbers.append(-sum(around))
    return numbers


def flat_numbers(cutting):
    """The numbers of all flats, in their order."""
    return numbers_in_order(flats(cutting))
