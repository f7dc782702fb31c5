"""The walls of a land, and the lands behind them."""

from cutlands.errors import NoNumber
from cutlands.lands import check_land
from cutlands.signs import held
from cutlands.wholes import is_number_of


def with_sign(signs, k, sign):
    """The signs with another one at the cut of a number."""
    return signs[:k] + (sign,) + signs[k + 1:]


def spot_on_wall(cutting, signs, k):
    """A spot on the cut of a number and on the land's side of all others; None where there is none."""
    answer = held(cutting, with_sign(signs, k, 0))
    if answer[0] == "spot":
        return answer[1]
    return None


def walls(cutting, signs):
    """The walls of a land: tuples (k, spot), the cut's number and such a spot, by rising numbers."""
    check_land(cutting, signs)
    spots = [spot_on_wall(cutting, signs, k) for k in range(cutting.many())]
    return [(k, spot) for k, spot in enumerate(spots) if spot is not None]


def land_behind(cutting, signs, k):
    """The land behind the wall of a number."""
    check_land(cutting, signs)
    if not is_number_of(k, cutting.many()) or spot_on_wall(cutting, signs, k) is None:
        raise NoNumber("no number of a wall of the land")
    return with_sign(signs, k, -signs[k])
