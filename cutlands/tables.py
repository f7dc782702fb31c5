"""Tables of signs over spots: a cut that draws a row, or weights that show that none does.

A spot is looked at as a cut of one dim more, its parts with a 1 behind them, and c 0. A cut of
spots, with its c turned, is then a spot of these dims, and lies on the same sides.
"""

from cutlands.cuts import is_cut, is_dims, is_spot, side_of
from cutlands.errors import NoSigns, NoSpot, NoTable
from cutlands.fractions import floor_of, plus, times
from cutlands.lands import cells
from cutlands.meets import pivots_and_rests, weighted, whole_way
from cutlands.signs import is_signs, is_weights, may_weigh, parts_or_weights, turned

MOST_SPOTS = 8
MOST_ROWS = 8


def check_spots(dims, things):
    """Refuses what is no dims, or no list of spots of these dims."""
    if not is_dims(dims) or not isinstance(things, list) or not 1 <= len(things) <= MOST_SPOTS:
        raise NoSpot("no list of one to eight spots of these dims")
    if not all([is_spot(dims, thing) for thing in things]):
        raise NoSpot("no spot of these dims")


def is_row(spots, thing):
    """Whether anything at all is a row over the spots."""
    return is_signs(len(spots), thing) and any(thing)


def check_row(dims, spots, row):
    """Refuses what is no spots, then what is no row over them."""
    check_spots(dims, spots)
    if not is_row(spots, row):
        raise NoSigns("no row over the spots")


def check_table(dims, spots, table):
    """Refuses what is no spots, then what is no table over them."""
    check_spots(dims, spots)
    if not isinstance(table, list) or not 1 <= len(table) <= MOST_ROWS:
        raise NoTable(-1)
    for k, row in enumerate(table):
        if not is_row(spots, row):
            raise NoTable(k)


def raised(spots):
    """The spots as cuts of one dim more, in whole numbers: each so often as its last number but one tells."""
    return [whole_way(spot + ((1, 1),)) + (0,) for spot in spots]


def weights_of_spots(rows, weights):
    """The weights of the spots themselves, of those of the raised ones."""
    return [weight * row[-2] for row, weight in zip(rows, weights)]


def cut_beside(dims, spots, sign):
    """A cut of which all spots lie on one side."""
    ahead = min([floor_of(spot[0]) for spot in spots]) - 1
    return turned((1,) + (0,) * (dims - 1) + (ahead,), sign)


def drawn_over(dims, spots, row):
    """What drawn tells, of spots and a row that are right."""
    # Where all signs are alike, what is found could have no d numbers but 0, and then be no cut.
    if row.count(row[0]) == len(row):
        return ("cut", cut_beside(dims, spots, row[0]))
    rows = raised(spots)
    answer = parts_or_weights(rows, dims + 1, row)
    if answer[0] == "paper":
        return ("weights", weights_of_spots(rows, answer[1]))
    numbers = whole_way(answer[1])
    return ("cut", numbers[:-1] + (-numbers[-1],))


def drawn(dims, spots, row):
    """A cut that draws the row, ("cut", cut), or weights that show that none does, ("weights", weights)."""
    check_row(dims, spots, row)
    return drawn_over(dims, spots, row)


def draws(dims, spots, row, thing):
    """Whether anything at all is a cut that draws the row."""
    check_row(dims, spots, row)
    if not is_cut(dims, thing):
        return False
    return all([side_of(thing, spot) == sign for spot, sign in zip(spots, row)])


def come_to_nought(parts, weights):
    """Whether the fractions, each times its weight, come to nought together."""
    together = (0, 1)
    for part, weight in zip(parts, weights):
        together = plus(together, times(part, (weight, 1)))
    return together[0] == 0


def shows_undrawn(dims, spots, row, thing):
    """Whether anything at all is right weights, which show that no cut draws the row."""
    check_row(dims, spots, row)
    if not is_weights(len(spots), thing):
        return False
    if not all([may_weigh(sign, weight) for sign, weight in zip(row, thing)]):
        return False
    if not any([sign != 0 and weight != 0 for sign, weight in zip(row, thing)]):
        return False
    if sum(thing) != 0:
        return False
    return all([come_to_nought([spot[place] for spot in spots], thing) for place in range(dims)])


def table_drawn(dims, spots, table):
    """A cut for each row, ("cuts", cuts), or ("row", k, weights) of the first row that none draws."""
    check_table(dims, spots, table)
    cuts = []
    for k, row in enumerate(table):
        answer = drawn_over(dims, spots, row)
        if answer[0] == "weights":
            return ("row", k, answer[1])
        cuts.append(answer[1])
    return ("cuts", cuts)


def rows_drawn(dims, spots):
    """All rows without 0 that some cut draws, in order."""
    check_spots(dims, spots)
    return [signs for signs, point in cells(raised(spots), dims + 1)]


def row_not_drawn(dims, spots):
    """A row without 0 that no cut draws, with right weights; None where some cut draws each."""
    check_spots(dims, spots)
    rows = raised(spots)
    rests = pivots_and_rests(weighted(rows), dims + 1)[1]
    if rests == []:
        return None
    # Weights by which spots come to nought show that no row of their signs is drawn.
    weights = weights_of_spots(rows, rests[0][dims + 2:])
    return (tuple([-1 if weight < 0 else 1 for weight in weights]), weights)
