"""Texts: [90], and [2], [3] of them."""

import inspect
import itertools
import unittest

import reckoning
from anything import things_of_no_number
from cutlands import texts as module
from cutlands.cuts import Cutting
from cutlands.errors import NoCutting, NoText
from cutlands.texts import (
    read_cut, read_cutting, read_fraction, read_signs, read_spot, shown_cut, shown_cutting, shown_fraction,
    shown_signs, shown_spot,
)
from reckoning import BIG, CUTS_OF_DIMS, GREAT, all_rows, made

READERS = [read_fraction, read_spot, read_cut, read_cutting, read_signs]

FRACTIONS = [
    ((0, 1), "0"), ((1, 1), "1"), ((-1, 1), "-1"), ((1, 2), "1/2"), ((-7, 3), "-7/3"), ((10, 1), "10"),
    ((100, 101), "100/101"), ((BIG, 1), "9" * 60), ((-BIG, BIG - 1), "-" + "9" * 60 + "/" + "9" * 59 + "8"),
    ((1, BIG), "1/" + "9" * 60), ((10 ** 59, 1), "1" + "0" * 59), ((-(10 ** 59), 3), "-1" + "0" * 59 + "/3"),
]
GOOD_NUMBERS = ["0", "1", "-1", "9", "10", "-10", "907", "9" * 60, "-" + "9" * 60, "1" + "0" * 59]
BAD_NUMBERS = [
    "", "-", "+", "+1", "+0", "-0", "--1", "-+1", "00", "01", "-01", "007", "0" * 60, " ", " 1", "1 ", "1 1", "- 1",
    "\t1", "1\n", "\n1", "1_0", "1.0", "1.", ".1", "1e3", "0x1", "1L", "x", "one", "\u0661", "\u00b2", "\uff11",
    "1\u0661", "\u0967", "\u2212" + "1", "1" * 61, "-" + "1" * 61, "1" + "0" * 60, "1\u00a0", "\u20091", "1,", ",1",
    "1:",
    ":1", "/1", "1/", "1\x00", "'1'", "(1)", "1;1", "nan", "inf", "None", "True",
]

DIMS_THAT_ARE_NONE = ["0", "4", "-1", "-2", "-3", "5", "10", "22", "9" * 60, "-" + "9" * 60]


class TextCase(unittest.TestCase):
    def refused(self, reader, thing):
        with self.assertRaises(NoText) as caught:
            reader(thing)
        self.assertIs(type(caught.exception), NoText)

    def check_shown(self, shown, read, thing, text):
        """That a thing is written as a text, and is read back of it."""
        answer = shown(thing)
        self.assertIs(type(answer), str)
        self.assertEqual(answer, text)
        back = read(text)
        self.assertEqual(back, thing)
        self.assertEqual(repr(back), repr(thing))


class Fractions(TextCase):
    def test_written_and_read_back(self):
        for fraction, text in FRACTIONS:
            self.check_shown(shown_fraction, read_fraction, fraction, text)

    def test_wholes(self):
        for text in GOOD_NUMBERS:
            self.check_shown(shown_fraction, read_fraction, (int(text), 1), text)

    def test_no_number(self):
        for text in BAD_NUMBERS:
            self.refused(read_fraction, text)

    def test_a_part_that_is_no_number(self):
        for text in BAD_NUMBERS:
            self.refused(read_fraction, "1/" + text)
            self.refused(read_fraction, text + "/7")

    def test_sixty_figures_and_one_more(self):
        for figures in ("1" * 60, "9" * 60, "1" + "0" * 59):
            for sign in ("", "-"):
                self.assertEqual(read_fraction(sign + figures), (int(sign + figures), 1))
                self.refused(read_fraction, sign + figures + "0")
                self.refused(read_fraction, sign + figures + "1/7")
        self.assertEqual(read_fraction("1/" + "7" * 60), (1, int("7" * 60)))
        self.refused(read_fraction, "1/" + "7" * 61)

    def test_bottoms(self):
        for text in [
            "1/1", "0/1", "-3/1", "1/0", "0/0", "1/-2", "-1/-2", "1/+2", "0/2", "0/7", "2/4", "-2/4", "6/3", "4/2",
            "10/4",
            "1/02", "1//2", "1/2/3", "/", "//", "/2", "1/", "-/2", "1 /2", "1/ 2", "3/3", "1:2", "1,2", "1/2,", "1\\2",
        ]:
            self.refused(read_fraction, text)

    def test_all_small_ones(self):
        for top in range(-13, 14):
            for bottom in range(1, 14):
                text = str(top) if bottom == 1 else str(top) + "/" + str(bottom)
                if reckoning.as_spot([reckoning.Fraction(top, bottom)]) == ((top, bottom),):
                    self.check_shown(shown_fraction, read_fraction, (top, bottom), text)
                else:
                    self.refused(read_fraction, text)


class Spots(TextCase):
    def test_written_and_read_back(self):
        self.check_shown(shown_spot, read_spot, ((1, 2), (-3, 1)), "1/2,-3")
        self.check_shown(shown_spot, read_spot, ((0, 1),), "0")
        self.check_shown(shown_spot, read_spot, ((0, 1), (0, 1), (-5, 7)), "0,0,-5/7")
        for dims in (1, 2, 3):
            for some in itertools.product(FRACTIONS, repeat=dims):
                spot = tuple(fraction for fraction, text in some)
                self.check_shown(shown_spot, read_spot, spot, ",".join(text for fraction, text in some))

    def test_no_spot(self):
        for text in [
            "", ",", "1,", ",1", "1,,2", "1, 2", "1 ,2", "1,2 ", " 1,2", "1,2,3,4", "0,0,0,0", "1,2,3,", "1;2",
            "1:2", "1,2:3",
            "1 2", "1/2,2/4", "1/1,2", "1/2/3", "(1,2)", "[1]", ".", "+", "1,2,3,4,5", "1.,2",
        ]:
            self.refused(read_spot, text)

    def test_a_part_that_is_no_number(self):
        for text in BAD_NUMBERS:
            self.refused(read_spot, text)
            self.refused(read_spot, "1," + text)
            self.refused(read_spot, text + ",1/2,3")


class Cuts(TextCase):
    def test_written_and_read_back(self):
        self.check_shown(shown_cut, read_cut, (2, -1, 3), "2,-1:3")
        self.check_shown(shown_cut, read_cut, (-5, 0), "-5:0")
        self.check_shown(shown_cut, read_cut, (0, 0, 1, -7), "0,0,1:-7")
        for cuts in list(CUTS_OF_DIMS.values()) + list(GREAT.values()):
            for cut in cuts:
                text = ",".join(str(number) for number in cut[:-1]) + ":" + str(cut[-1])
                self.check_shown(shown_cut, read_cut, cut, text)

    def test_no_cut(self):
        for text in [
            "", ":", "1", "1,2", ":1", "1:", "1::2", "1:2:3", "1,:2", ",1:2", "1,,2:3", "1,2:3,4", "1,2,3,4:5",
            "1:2,3", "1 :2",
            "1: 2", " 1:2", "1:2 ", "1, 2:3", "1/2:3", "1:1/2", "2/1:3", "1;2", "1,2;3", "1,2,3:", "1,2,3,:4",
            "2 1,0:3", ".",
        ]:
            self.refused(read_cut, text)

    def test_numbers_all_0(self):
        for text in ["0:0", "0:1", "0,0:1", "0,0:0", "0,0,0:5", "0,0,0:0", "0,0,0:-1"]:
            self.refused(read_cut, text)

    def test_a_part_that_is_no_number(self):
        for text in BAD_NUMBERS:
            self.refused(read_cut, text + ":1")
            self.refused(read_cut, "1:" + text)
            self.refused(read_cut, "1," + text + ":1")
            self.refused(read_cut, "1,2," + text + ":3")
            self.refused(read_cut, text + ",1:3")

    def test_sixty_figures_and_one_more(self):
        self.assertEqual(read_cut("9" * 60 + ",1:-" + "9" * 60), (BIG, 1, -BIG))
        self.refused(read_cut, "9" * 61 + ",1:1")
        self.refused(read_cut, "1,1:-" + "9" * 61)


class Cuttings(TextCase):
    def check_cutting(self, dims, cuts, text):
        self.assertEqual(shown_cutting(made(dims, cuts)), text)
        answer = read_cutting(text)
        self.assertIs(type(answer), Cutting)
        self.assertEqual((answer.dims(), answer.cuts()), (dims, list(cuts)))

    def test_written_and_read_back(self):
        self.check_cutting(2, [(1, 0, 3), (2, -1, 3)], "2 1,0:3 2,-1:3")
        self.check_cutting(1, [(-5, 0)], "1 -5:0")
        for dims in (1, 2, 3):
            self.check_cutting(dims, [], str(dims))
        for dims, cuts in reckoning.small_cuttings() + reckoning.full_cuttings() + reckoning.great_cuttings():
            self.check_cutting(dims, cuts, " ".join([str(dims)] + [shown_cut(cut) for cut in cuts]))

    def test_no_cutting_is_written_so(self):
        for text in [
            "", " ", "2 ", " 2", "2  1,0:3", "2 1,0:3 ", "2 1,0:3  2,-1:3", "2,1,0:3", "1,0:3", "1,0:3 2", "2:1,0:3",
            "x",
            "2 x", "2 1,0", "2 1,0:3 x", "2\t1,0:3", "2\n1,0:3", "2 1,0:3\n", "two 1,0:3", "2 1,0:3;2,-1:3", "2/1",
            "2 1/2,0:3",
            "2 1,0:3 2", "2 .", "2 +", "2 1,0:1/2",
        ]:
            self.refused(read_cutting, text)

    def refused_at(self, text, at):
        with self.assertRaises(NoCutting) as caught:
            read_cutting(text)
        self.assertIs(type(caught.exception), NoCutting)
        self.assertEqual(caught.exception.at, at, text)

    def test_dims_that_are_none(self):
        eight = " ".join("1:" + str(c) for c in range(8))
        for word in DIMS_THAT_ARE_NONE:
            self.refused_at(word, -1)
            for cuts in ("1,0:3", "1:3", "1,2,3:4", "1,0:3 1:3", "1:3 1:3", "1:3 2:6", eight):
                self.refused_at(word + " " + cuts, -1)

    def test_dims_that_are_no_number(self):
        for word in BAD_NUMBERS + ["02", "+2", "2.0", "04", "+4", "4/1", "-04"]:
            self.refused(read_cutting, word + " 1,0:3")
            self.refused(read_cutting, word + " 1,0:3 1,0:3")

    def test_no_cut_behind_dims_that_are_none(self):
        for word in DIMS_THAT_ARE_NONE:
            for cut in ["", "x", "1,0", "0,0:1", "0:0", "1,2,3,4:5", "01:3", "1:-0", "1:" + "9" * 61, "1/2:3", "4"]:
                self.refused(read_cutting, word + " " + cut)
                self.refused(read_cutting, word + " 1:3 " + cut)
                self.refused(read_cutting, word + " " + cut + " 1:3")

    def test_cuts_with_numbers_all_0_and_of_four_dims(self):
        for text in ["2 0,0:1", "2 1,0:3 0,0:0", "1 0:1", "3 0,0,0:1", "3 1,2,3,4:5", "2 1,0:3 1,2,3,4:5", "2 :1"]:
            self.refused(read_cutting, text)

    def test_what_is_written_as_one_but_is_none(self):
        eight = " ".join("1:" + str(c) for c in range(8))
        for text, at in [
            ("2 1:3", 0), ("2 1,0,0:3", 0), ("1 1,0:3", 0), ("3 1,0:3", 0), ("2 1,0:3 1:3", 1), ("2 1,0:3 1,0:3", 1),
            ("2 1,0:3 2,0:6", 1), ("2 1,0:3 0,1:3 -1,0:-3", 2), ("1 " + eight, 7), ("1 " + eight + " 1:8", 7),
            ("1 1:0 2:0 1,1:1", 1), ("1 1:0 1,1:1 2:0", 1), ("3 1,2,3:4 0,0,1:0 2,4,6:8 0,0,2:0", 2),
        ]:
            self.refused_at(text, at)

    def test_no_text_ahead_of_no_cutting(self):
        for text in ["2 1:3 x", "2 1,0:3 1,0:3 ", "2 1,0:3 1,0:3 0,0:1", "1 1:0 2:0 03:1", "4 1:3 x"]:
            self.refused(read_cutting, text)


class Signs(TextCase):
    def test_written_and_read_back(self):
        self.check_shown(shown_signs, read_signs, (), ".")
        self.check_shown(shown_signs, read_signs, (1, 0, -1), "+0-")
        for many in range(1, 8):
            for signs in list(all_rows(many))[::1 + 3 ** many // 200]:
                self.check_shown(shown_signs, read_signs, signs, "".join("-0+"[sign + 1] for sign in signs))

    def test_no_signs_are_written_so(self):
        for text in [
            "", " ", "..", ".+", "+.", "1", "-1", "+1", "+ -", " +", "+ ", "+,-", "+/-", "*", "x", "+\n", "\n", "\t",
            "o", "O",
            "\u2212", "\uff0b", "\u0660", "++x", "x++", "+-0?", "(+)", "None", "0.", "00:0",
        ]:
            self.refused(read_signs, text)


class NoTexts(TextCase):
    def test_anything(self):
        for reader in READERS:
            for thing in [0, 1, -1, BIG, b"0", b"1", ["1"], ("1",), {"1": 1}, (1, 2), [1, 2]] + things_of_no_number():
                if not isinstance(thing, str):
                    self.refused(reader, thing)

    def test_right_things_that_are_no_text(self):
        for reader, thing in zip(READERS, [(1, 2), ((1, 2),), (1, 2), Cutting(2, []), (1, 0)], strict=True):
            self.refused(reader, thing)


class Kept(TextCase):
    """[2] and [3]."""

    def test_asked_again_also_behind_a_refusal(self):
        asked = [(read_fraction, "1/2"), (read_spot, "1,2/3"), (read_cut, "2,-1:3"), (read_signs, "+0-")]
        before = [reader(text) for reader, text in asked]
        for reader in READERS:
            for thing in ("", "x", None, "2 1,0:3 1,0:3"):
                with self.assertRaises((NoText, NoCutting)):
                    reader(thing)
        self.assertEqual([reader(text) for reader, text in asked], before)

    def test_cuttings_read_do_not_touch_one_another(self):
        one = read_cutting("2 1,0:3")
        other = read_cutting("2 1,0:3")
        one.cuts().append(None)
        self.assertEqual(one.with_one((0, 1, 1)).many(), 2)
        self.assertEqual((one.many(), other.cuts()), (1, [(1, 0, 3)]))
        self.assertEqual(shown_cutting(one), "2 1,0:3")


class Interface(unittest.TestCase):
    def test_names_and_arguments(self):
        for name, arguments in [
            ("shown_fraction", ["one"]), ("shown_spot", ["spot"]), ("shown_cut", ["cut"]),
            ("shown_cutting", ["cutting"]), ("shown_signs", ["signs"]), ("read_fraction", ["text"]),
            ("read_spot", ["text"]), ("read_cut", ["text"]), ("read_cutting", ["text"]), ("read_signs", ["text"]),
        ]:
            self.assertEqual(list(inspect.signature(getattr(module, name)).parameters), arguments)


if __name__ == "__main__":
    unittest.main()
