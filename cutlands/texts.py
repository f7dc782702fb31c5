"""How fractions, spots, cuts, cuttings and signs are written, and how they are read back."""

from cutlands.cuts import MOST_DIMS, Cutting, is_cut
from cutlands.errors import NoText
from cutlands.wholes import common_divisor

MOST_FIGURES = 60
FIGURES = "0123456789"
MARKS = {1: "+", 0: "0", -1: "-"}
SIGNS = {"+": 1, "0": 0, "-": -1}
NO_SIGNS = "."


def shown_row(numbers):
    """Whole numbers with commas between."""
    return ",".join([str(number) for number in numbers])


def shown_fraction(one):
    """A fraction as it is written."""
    if one[1] == 1:
        return str(one[0])
    return str(one[0]) + "/" + str(one[1])


def shown_spot(spot):
    """A spot as it is written."""
    return ",".join([shown_fraction(part) for part in spot])


def shown_cut(cut):
    """A cut as it is written."""
    return shown_row(cut[:-1]) + ":" + str(cut[-1])


def shown_cutting(cutting):
    """A cutting as it is written."""
    return " ".join([str(cutting.dims())] + [shown_cut(cut) for cut in cutting.cuts()])


def shown_signs(signs):
    """Signs as they are written."""
    if signs == ():
        return NO_SIGNS
    return "".join([MARKS[sign] for sign in signs])


def check_text(thing):
    """Refuses what is no text."""
    if not isinstance(thing, str):
        raise NoText("no text")


def are_figures(text, most):
    """Whether a text is one to so many figures, without a nought ahead of others."""
    if not 1 <= len(text) <= most or not all([sign in FIGURES for sign in text]):
        return False
    return text == "0" or text[0] != "0"


def read_number(text):
    """The whole number that a text writes."""
    figures = text[1:] if text.startswith("-") else text
    if not are_figures(figures, MOST_FIGURES) or text == "-0":
        raise NoText("no number is written so")
    return int(text)


def read_fraction(text):
    """The fraction that a text writes."""
    check_text(text)
    parts = text.split("/")
    if len(parts) == 1:
        return (read_number(text), 1)
    if len(parts) != 2:
        raise NoText("no fraction is written so")
    top = read_number(parts[0])
    bottom = read_number(parts[1])
    if bottom < 2 or common_divisor(top, bottom) != 1:
        raise NoText("no fraction is written so")
    return (top, bottom)


def parts_of_dims(text):
    """The parts between commas, one for each of one to three dims."""
    parts = text.split(",")
    if len(parts) > MOST_DIMS:
        raise NoText("too many dims")
    return parts


def read_spot(text):
    """The spot that a text writes."""
    check_text(text)
    return tuple([read_fraction(part) for part in parts_of_dims(text)])


def read_cut(text):
    """The cut that a text writes."""
    check_text(text)
    halves = text.split(":")
    if len(halves) != 2:
        raise NoText("no cut is written so")
    numbers = [read_number(part) for part in parts_of_dims(halves[0])]
    cut = tuple(numbers + [read_number(halves[1])])
    if not is_cut(len(numbers), cut):
        raise NoText("a cut's numbers are not all 0")
    return cut


def read_cutting(text):
    """The cutting that a text writes."""
    check_text(text)
    words = text.split(" ")
    # All words are read ahead of the cutting, which refuses for itself what is written as one
    # but is none, its dims too: so what is not written as told is refused first.
    dims = read_number(words[0])
    cuts = [read_cut(word) for word in words[1:]]
    return Cutting(dims, cuts)


def read_signs(text):
    """The signs that a text writes."""
    check_text(text)
    if text == NO_SIGNS:
        return ()
    if text == "" or not all([mark in SIGNS for mark in text]):
        raise NoText("no signs are written so")
    return tuple([SIGNS[mark] for mark in text])
