"""The desk: it has a cutting, is told rows of text, and answers with texts."""

from cutlands.bounded import box, reach
from cutlands.counting import how_many_bounded, how_many_lands
from cutlands.cuts import Cutting
from cutlands.errors import NoDeed, NoText
from cutlands.faces import face_counts
from cutlands.lands import land_at, number_of
from cutlands.signs import held
from cutlands.texts import are_figures, read_cut, read_cutting, read_signs, read_spot
from cutlands.texts import shown_fraction, shown_row, shown_signs, shown_spot

FIRST_DIMS = 2
MOST_FIGURES_OF_N = 9
NO_END = "*"


def read_place(word):
    """The number that a word writes as N."""
    if not are_figures(word, MOST_FIGURES_OF_N):
        raise NoDeed("no number of one to nine figures")
    return int(word)


def with_cut(cutting, word):
    """The cutting with the cut that a word writes."""
    return cutting.with_one(read_cut(word))


def without_cut(cutting, word):
    """The cutting without the cut whose number a word writes."""
    return cutting.without(read_place(word))


def told_lands(cutting):
    """How many lands there are."""
    return str(how_many_lands(cutting))


def told_bounded(cutting):
    """How many bounded lands there are."""
    return str(how_many_bounded(cutting))


def told_faces(cutting):
    """How many faces there are of each number of dims."""
    return " ".join([str(many) for many in face_counts(cutting)])


def told_sides(cutting, word):
    """The sides of a spot."""
    return shown_signs(cutting.sides(read_spot(word)))


def told_held(cutting, word):
    """A spot that has signs, or weights that show that none has."""
    answer = held(cutting, read_signs(word))
    if answer[0] == "spot":
        return "spot " + shown_spot(answer[1])
    return "none " + shown_row(answer[1])


def told_land(cutting, word):
    """The signs of the land of a number."""
    return shown_signs(land_at(cutting, read_place(word)))


def told_number(cutting, word):
    """The number of a land."""
    return str(number_of(cutting, read_signs(word)))


def told_reach(cutting, word):
    """Whether a land is bounded, and else a direction in which it has no end."""
    answer = reach(cutting, read_signs(word))
    if answer[0] == "bounded":
        return "bounded"
    return "far " + shown_row(answer[1])


def shown_end(end):
    """An end of a land in a dim."""
    if end is None:
        return NO_END
    return shown_fraction(end)


def told_box(cutting, word):
    """Between which ends a land lies in each dim."""
    ends = box(cutting, read_signs(word))
    return " ".join([shown_end(low) + ".." + shown_end(high) for low, high in ends])


ALONE = {"lands": told_lands, "bounded": told_bounded, "faces": told_faces}
CHANGES = {"cut": with_cut, "drop": without_cut}
ASKED = {
    "sides": told_sides, "held": told_held, "land": told_land,
    "number": told_number, "reach": told_reach, "box": told_box,
}


class Desk:
    """A desk with a cutting of its own, without cuts at first."""

    def __init__(self):
        self.own_cutting = Cutting(FIRST_DIMS, [])

    def say(self, row):
        """Answers a row of text."""
        if not isinstance(row, str):
            raise NoDeed("no text")
        parted = row.partition(" ")
        if parted[0] == "cutting" and parted[1] == " ":
            self.own_cutting = read_cutting(parted[2])
            return "ok"
        try:
            return self.answer_words(row.split(" "))
        except NoText as error:
            raise NoDeed("a word is not written as told") from error

    def answer_words(self, words):
        """Answers a row of one or two words."""
        if len(words) == 1 and words[0] in ALONE:
            return ALONE[words[0]](self.own_cutting)
        if len(words) == 2 and words[0] in ASKED:
            return ASKED[words[0]](self.own_cutting, words[1])
        if len(words) == 2 and words[0] in CHANGES:
            self.own_cutting = CHANGES[words[0]](self.own_cutting, words[1])
            return told_lands(self.own_cutting)
        raise NoDeed("no such row")
