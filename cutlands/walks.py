"""Walks from land to land, and the poles of a cutting."""

from cutlands.cuts import is_spot
from cutlands.lands import check_land, lands
from cutlands.signs import is_signs
from cutlands.walls import spot_on_wall, with_sign
from cutlands.wholes import dot, is_number_of, sign_of


def check_lands(cutting, one, other):
    """Refuses what is no signs or no land, the first ahead of the second."""
    check_land(cutting, one)
    check_land(cutting, other)


def unlike_places(one, other):
    """The places at which two tuples of signs are unlike, rising."""
    return [k for k in range(len(one)) if one[k] != other[k]]


def turned_at(signs, k):
    """The signs with the other sign at the cut of a number."""
    return with_sign(signs, k, -signs[k])


def parting(cutting, one, other):
    """The numbers of the cuts that part two lands, rising."""
    check_lands(cutting, one, other)
    return unlike_places(one, other)


def step_towards(cutting, here, other):
    """A step (k, spot, land) from a land through a wall that parts it from the other land, which is another one."""
    # There is one: who goes straight from a spot of one to a spot of the other leaves through it.
    k = -1
    spot = None
    while spot is None:
        k = k + 1
        if here[k] != other[k]:
            spot = spot_on_wall(cutting, here, k)
    return (k, spot, turned_at(here, k))


def walk(cutting, one, other):
    """A walk from a land to another: a list of steps (k, spot, land)."""
    check_lands(cutting, one, other)
    steps = []
    here = one
    while here != other:
        step = step_towards(cutting, here, other)
        steps.append(step)
        here = step[2]
    return steps


def is_step(cutting, here, other, thing):
    """Whether anything at all is a step from a land through a wall that parts it from the other land."""
    if not isinstance(thing, tuple) or len(thing) != 3:
        return False
    k = thing[0]
    if not is_number_of(k, cutting.many()) or here[k] == other[k]:
        return False
    if not is_spot(cutting.dims(), thing[1]) or cutting.sides(thing[1]) != with_sign(here, k, 0):
        return False
    return is_signs(cutting.many(), thing[2]) and thing[2] == turned_at(here, k)


def is_walk(cutting, one, other, thing):
    """Whether anything at all is a walk from a land to another."""
    check_lands(cutting, one, other)
    if not isinstance(thing, list):
        return False
    here = one
    for step in thing:
        if not is_step(cutting, here, other, step):
            return False
        here = step[2]
    return here == other


def how_many_walks(cutting, one, other):
    """How many walks there are from a land to another, by the cuts as they are gone through."""
    check_lands(cutting, one, other)
    # Two lands with one sign unlike have a wall between them, so lands alone are asked for.
    all_lands = lands(cutting)
    reached = {one: 1}
    for step in unlike_places(one, other):
        further = {}
        for here, many in reached.items():
            for k in unlike_places(here, other):
                behind = turned_at(here, k)
                if behind in all_lands:
                    further[behind] = further.get(behind, 0) + many
        reached = further
    return reached[other]


def steps_off(cutting, signs):
    """How many lands are parted from a land by none, one, two cuts, and so on, up to the most."""
    check_land(cutting, signs)
    apart = [len(unlike_places(signs, land)) for land in lands(cutting)]
    return [apart.count(many) for many in range(max(apart) + 1)]


def sums_along(cutting, direction):
    """Each cut's d numbers times the direction's, added up."""
    return [dot(cut[:-1], direction) for cut in cutting.cuts()]


def poles(cutting):
    """A tuple (direction, land): a direction along which no cut goes, and the land that lies far ahead in it."""
    # Along 1, a number and its square a cut goes for two numbers at most, so one is soon found.
    number = 0
    direction = (1, 0, 0)[:cutting.dims()]
    sums = sums_along(cutting, direction)
    while 0 in sums:
        number = number + 1
        direction = (1, number, number * number)[:cutting.dims()]
        sums = sums_along(cutting, direction)
    return (direction, tuple([sign_of(come_to) for come_to in sums]))
