"""The desk: [91], and [2], [3] of it."""

import inspect
import itertools
import unittest

import reckoning
from anything import things_of_no_number
from cutlands import desk as module
from cutlands.bounded import bounded_lands, box, shows_far
from cutlands.desk import Desk
from cutlands.errors import CutError, NoCutting, NoDeed, NoLand, NoNumber, NoSigns, NoSpot, NoText
from cutlands.lands import lands
from cutlands.signs import shows_none
from cutlands.texts import read_spot, shown_cut, shown_cutting, shown_signs
from reckoning import BIG, CUTS_OF_DIMS, all_rows, made

THREE = "cutting 2 1,0:0 0,1:0 1,1:1"
ONE_WORD = ["lands", "bounded", "faces"]
TWO_WORDS = ["cut", "drop", "sides", "held", "land", "number", "reach", "box"]


def desk_with(*rows):
    desk = Desk()
    for row in rows:
        desk.say(row)
    return desk


def desk_of(dims, cuts):
    return desk_with("cutting " + shown_cutting(made(dims, cuts)))


def told(desk):
    """All that a desk tells without change, to be held against what it tells later."""
    rows = ["lands", "bounded", "faces"]
    for number in range(int(desk.say("lands"))):
        land = desk.say(f"land {number}")
        rows.extend(word + " " + land for word in ("number", "held", "reach", "box"))
    return [(row, desk.say(row)) for row in rows]


class DeskCase(unittest.TestCase):
    def refused(self, kind, desk, row):
        before = told(desk)
        with self.assertRaises(kind) as caught:
            desk.say(row)
        self.assertIs(type(caught.exception), kind, row)
        self.assertEqual(told(desk), before)
        return caught.exception

    def check(self, desk, row, right):
        answer = desk.say(row)
        self.assertIs(type(answer), str)
        self.assertEqual(answer, right, row)

    def each_cutting(self):
        for dims, cuts in reckoning.small_cuttings() + reckoning.great_cuttings()[:4]:
            with self.subTest(dims=dims, cuts=cuts):
                yield dims, cuts, made(dims, cuts), desk_of(dims, cuts)


class Rows(DeskCase):
    def test_two_dims_without_cuts_at_first(self):
        for row, right in [
            ("lands", "1"), ("bounded", "0"), ("faces", "0 0 1"), ("land 0", "."), ("number .", "0"), ("held .",
            "spot 0,0"),
            ("sides 1/2,3", "."), ("box .", "*..* *..*"), ("cut 1,0:3", "2"),
        ]:
            self.check(Desk(), row, right)

    def test_a_day_at_the_desk(self):
        desk = Desk()
        for row, right in [
            (THREE, "ok"), ("lands", "7"), ("bounded", "1"), ("faces", "3 9 7"), ("sides 1/4,1/4", "++-"),
            ("sides 0,1", "0+0"),
            ("land 5", "++-"), ("number ++-", "5"), ("land 0", "---"), ("number +++", "6"), ("reach ++-", "bounded"),
            ("box ++-", "0..1 0..1"), ("box -+-", "*..0 0..*"), ("box +++", "0..* 0..*"), ("held 0+0", "spot 0,1"),
            ("drop 0", "4"), ("lands", "4"), ("sides 1/4,1/4", "+-"), ("cut 1,0:1/2", None), ("cut 2,0:1", "7"),
            ("bounded", "1"), ("drop 2", "4"), ("drop 1", "2"), ("drop 0", "1"), ("lands", "1"), ("faces", "0 0 1"),
            ("cutting 1 2:1 1:5", "ok"), ("lands", "3"), ("bounded", "1"), ("faces", "2 3"), ("box +-", "1/2..5"),
            ("sides 1/2", "0-"), ("cutting 3 1,0,0:0", "ok"), ("faces", "0 0 1 2"), ("box -", "*..0 *..* *..*"),
            ("cut 0,0,1:0", "4"), ("cutting 3", "ok"), ("lands", "1"), ("box .", "*..* *..* *..*"),
        ]:
            if right is None:
                self.refused(NoDeed, desk, row)
            else:
                self.check(desk, row, right)

    def test_counts(self):
        for dims, cuts, cutting, desk in self.each_cutting():
            self.check(desk, "lands", str(len(reckoning.all_lands(cuts, dims))))
            self.check(desk, "bounded", str(len(bounded_lands(cutting))))
            counts = [0] * (dims + 1)
            if len(cuts) * dims <= 12:
                for face in reckoning.all_faces(cuts, dims):
                    zeros = [cut[:dims] for cut, sign in zip(cuts, face) if sign == 0]
                    counts[dims - reckoning.rank(zeros)] += 1
                self.check(desk, "faces", " ".join(str(many) for many in counts))

    def test_lands_and_numbers(self):
        for dims, cuts, cutting, desk in self.each_cutting():
            for number, land in enumerate(lands(cutting)):
                self.check(desk, f"land {number}", shown_signs(land))
                self.check(desk, "number " + shown_signs(land), str(number))

    def test_sides(self):
        spots = ["0", "1", "-1/2", "7/3", "9" * 60]
        for dims, cuts, cutting, desk in self.each_cutting():
            for parts in itertools.product(spots, repeat=dims):
                text = ",".join(parts)
                self.check(desk, "sides " + text, shown_signs(cutting.sides(read_spot(text))))

    def test_held(self):
        for dims, cuts, cutting, desk in self.each_cutting():
            faces = reckoning.all_faces(cuts[:3], dims)
            desk = desk_of(dims, cuts[:3])
            for signs in all_rows(len(cuts[:3])):
                words = desk.say("held " + shown_signs(signs)).split(" ")
                self.assertEqual(len(words), 2)
                if signs in faces:
                    self.assertEqual(words[0], "spot")
                    parts = [reckoning.Fraction(part) for part in words[1].split(",")]
                    self.assertEqual(reckoning.sides(cuts[:3], parts), signs)
                else:
                    self.assertEqual(words[0], "none")
                    weights = [int(word) for word in words[1].split(",")]
                    self.assertTrue(shows_none(made(dims, cuts[:3]), signs, weights))

    def test_spots_that_are_held_can_be_read_back(self):
        for dims in (1, 2, 3):
            desk = desk_of(dims, reckoning.by_chance(3, dims, 7, 10 ** 9))
            for number in range(int(desk.say("lands"))):
                land = desk.say(f"land {number}")
                word, spot = desk.say("held " + land).split(" ")
                self.check(desk, "sides " + spot, land)

    def test_reach(self):
        for dims, cuts, cutting, desk in self.each_cutting():
            bounded = bounded_lands(cutting)
            for land in lands(cutting):
                words = desk.say("reach " + shown_signs(land)).split(" ")
                if land in bounded:
                    self.assertEqual(words, ["bounded"])
                else:
                    self.assertEqual((len(words), words[0]), (2, "far"))
                    direction = tuple(int(word) for word in words[1].split(","))
                    self.assertTrue(shows_far(cutting, land, direction))

    def test_box(self):
        for dims, cuts, cutting, desk in self.each_cutting():
            for land in lands(cutting):
                right = []
                for ends in box(cutting, land):
                    right.append("..".join("*" if end is None else str(reckoning.Fraction(*end)) for end in ends))
                self.check(desk, "box " + shown_signs(land), " ".join(right))

    def test_cuts_one_by_one_and_dropped(self):
        for dims, cuts, cutting, desk in self.each_cutting():
            desk = desk_of(dims, [])
            for k, cut in enumerate(cuts):
                self.check(desk, "cut " + shown_cut(cut), str(len(reckoning.all_lands(cuts[:k + 1], dims))))
            self.assertEqual(told(desk), told(desk_of(dims, cuts)))
            for k in range(len(cuts)):
                desk = desk_of(dims, cuts)
                rest = cuts[:k] + cuts[k + 1:]
                self.check(desk, f"drop {k}", str(len(reckoning.all_lands(rest, dims))))
                self.assertEqual(told(desk), told(desk_of(dims, rest)))


class NoDeeds(DeskCase):
    def refused_at_all(self, row):
        for desk in (Desk(), desk_with(THREE)):
            self.refused(NoDeed, desk, row)

    def test_anything(self):
        for thing in [0, 1, -1, BIG, b"lands", ["lands"], ("lands",), ["cut",
        "1,0:3"], {"lands": 1}] + things_of_no_number():
            if not isinstance(thing, str):
                self.refused_at_all(thing)

    def test_other_words(self):
        for row in [
            "", " ", "x", "land", "Lands", "LANDS", "land s", "lands?", "count", "spot", "cutting", "cuttings 2",
            "Cutting 2",
            "cutting\t2", "cutting\n2", "cutting,2", "cutting2", "help", "ok", "sides", "held", "number", "reach",
            "box", "cut",
            "drop", "face", "faces.", "lands\n", "\nlands", "lands\t", "bound", "say lands", "x 1", "1", "+", ".",
            "2 1,0:3",
        ]:
            self.refused_at_all(row)

    def test_too_many_words(self):
        for word in ONE_WORD:
            for more in ("0", "lands", "+", "1,0:3", "."):
                self.refused_at_all(word + " " + more)
        for row in [
            "cut 1,0:3 0,1:3", "drop 0 1", "sides 0,0 0,0", "sides 0 0", "held + +", "held . .", "land 0 0",
            "number . .",
            "reach . .", "box . .", "cut 1,0 :3", "land 1 2 3",
        ]:
            self.refused_at_all(row)

    def test_too_few_words(self):
        for word in TWO_WORDS:
            self.refused_at_all(word)

    def test_blanks_ahead_behind_and_twice(self):
        for row in ["lands", "bounded", "faces"]:
            for changed in (" " + row, row + " ", "  " + row, row + "  "):
                self.refused_at_all(changed)
        for row in ["cut 1,2:7", "drop 0", "sides 0,0", "held ---", "held .", "land 0", "number ---", "reach ---",
        "box ---"]:
            word, more = row.split(" ")
            for changed in (" " + row, row + " ", word + "  " + more, word + " ", word + "\t" + more, row + "\n"):
                self.refused_at_all(changed)
        for row in (" cutting 2", "  cutting 2 1,0:3"):
            self.refused_at_all(row)

    def test_words_not_written_as_told(self):
        for row in [
            "cut 1,0", "cut x", "cut 1,0:x", "cut 0,0:1", "cut 0:0", "cut 1,2,3,4:5", "cut 01,0:3", "cut +1,0:3",
            "cut 1,-0:3",
            "cut 1/2,0:3", "cut :3", "cut 1,0:", "cut " + "1" * 61 + ",0:3", "cut (1,0,3)", "cut 1;0:3",
            "sides x", "sides 1,2,3,4", "sides 2/4,0", "sides 1/1,0", "sides 1/0,0", "sides 01,0", "sides -0,0",
            "sides 1,",
            "sides .", "sides 0.5,0", "sides " + "1" * 61 + ",0", "sides 1:2",
            "held x", "held 1", "held ..", "held .+", "held +,+", "held 111", "number x", "number 5", "number ++*",
            "reach 7", "reach x", "box x", "box 1", "box ..", "box ++x",
        ]:
            self.refused_at_all(row)

    def test_numbers_that_are_not_written_as_told(self):
        for word in ("drop", "land"):
            for number in [
                "x", "-1", "-0", "+0", "+1", "00", "01", "000000000", "1.0", "1/2", "1_0", "1,0", "\u0660",
                "\u00b2", "0x0",
                "1234567890", "9999999999", "0000000000", "1" * 60, "1" * 61, ".", "*", "",
            ]:
                self.refused_at_all(word + " " + number)

    def test_one_to_nine_figures(self):
        for word in ("drop", "land"):
            for number in ["7", "12", "100", "123456789", "999999999", "100000000"]:
                self.refused(NoNumber, desk_with(THREE), word + " " + number)


class StagesRefuse(DeskCase):
    def test_cuttings(self):
        for text in [
            "", " ", "x", "2 ", " 2", "  2", "2 1,0", "2 0,0:1", "2  1,0:3", "2 1,0:3 ", "02",
            "2 1,2,3,4:5", "2\n",
            "1,0:3", "lands", "+", "2 " + "1" * 61 + ",0:3", "4 ", "04", "-0", "4 1,0", "0 0,0:1", "4 1,2,3,4:5",
        ]:
            for desk in (Desk(), desk_with(THREE)):
                self.refused(NoText, desk, "cutting " + text)
        for text, at in [
            ("2 1:3", 0), ("2 1,0:3 1,0:3", 1), ("2 1,0:3 0,1:1 -2,0:-6", 2), ("1 1,0:3", 0), ("0", -1), ("4", -1),
            ("-1", -1), ("9" * 60, -1), ("4 1,0:3", -1), ("0 1,0:3 1,0:3", -1),
        ]:
            for desk in (Desk(), desk_with(THREE)):
                self.assertEqual(self.refused(NoCutting, desk, "cutting " + text).at, at)
        eight = " ".join("1:" + str(c) for c in range(8))
        self.assertEqual(self.refused(NoCutting, Desk(), "cutting 1 " + eight).at, 7)

    def test_cuts(self):
        desk = desk_with(THREE)
        for text in ["1,0:0", "-3,0:0", "2,2:2", "1:3", "1,0,0:3"]:
            self.assertEqual(self.refused(NoCutting, desk, "cut " + text).at, 3)
        for c in range(2, 6):
            desk.say(f"cut 1,1:{c}")
        self.assertEqual(self.refused(NoCutting, desk, "cut 1,1:9").at, 7)
        self.assertEqual(self.refused(NoCutting, Desk(), "cut 1:3").at, 0)

    def test_numbers(self):
        for number in (3, 4, 99):
            self.refused(NoNumber, desk_with(THREE), f"drop {number}")
        for number in (7, 8, 99):
            self.refused(NoNumber, desk_with(THREE), f"land {number}")
        self.refused(NoNumber, Desk(), "drop 0")
        self.refused(NoNumber, Desk(), "land 1")

    def test_spots(self):
        for text in ["0", "0,0,0", "1/2", "1/2,1/3,1/4"]:
            self.refused(NoSpot, desk_with(THREE), "sides " + text)
            self.refused(NoSpot, Desk(), "sides " + text)

    def test_signs_and_lands(self):
        for word in ("held", "number", "reach", "box"):
            for text in [".", "+", "++", "++++", "0000", "+-+-+-+-+-"]:
                self.refused(NoSigns, desk_with(THREE), word + " " + text)
            self.refused(NoSigns, Desk(), word + " +")
        for word in ("number", "reach", "box"):
            for text in ["--+", "000", "0+-", "++0"]:
                self.refused(NoLand, desk_with(THREE), word + " " + text)


class Kept(DeskCase):
    """[2] and [3]."""

    def test_two_desks_do_not_touch_one_another(self):
        one, other = Desk(), Desk()
        one.say(THREE)
        self.assertEqual(other.say("lands"), "1")
        other.say("cut 5,1:0")
        self.assertEqual((one.say("lands"), other.say("lands")), ("7", "2"))
        before = told(one)
        other.say("drop 0")
        other.say("cutting 3 1,0,0:0")
        self.assertEqual(told(one), before)
        self.assertEqual(Desk().say("lands"), "1")

    def test_asked_again(self):
        for dims in (1, 2, 3):
            desk = desk_of(dims, CUTS_OF_DIMS[dims][:5])
            before = told(desk)
            self.assertEqual(told(desk), before)
            self.assertEqual(told(desk_of(dims, CUTS_OF_DIMS[dims][:5])), before)

    def test_there_and_back(self):
        desk = desk_with(THREE)
        before = told(desk)
        desk.say("cut 7,1:2")
        desk.say("drop 3")
        self.assertEqual(told(desk), before)

    def test_behind_refusals(self):
        desk = desk_with(THREE)
        before = told(desk)
        for row in [
            "cutting 4", "cutting 4 x", "cutting 2 1:1", "cutting 2 1,0:1 1,0:1", "cut 1,0:0", "drop 9", "x", None,
            "cut x",
        ]:
            with self.assertRaises(CutError):
                desk.say(row)
        self.assertEqual(told(desk), before)


class Interface(unittest.TestCase):
    def test_names_and_arguments(self):
        self.assertEqual(list(inspect.signature(module.Desk).parameters), [])
        self.assertEqual(list(inspect.signature(module.Desk.say).parameters), ["self", "row"])


if __name__ == "__main__":
    unittest.main()
