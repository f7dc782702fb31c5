"""Bounded lands and boxes: [40], [41], [42], and [2], [3] of them."""

import inspect
import itertools
import math
import unittest
from fractions import Fraction

import reckoning
from anything import things_of_no_number
from cutlands import bounded as module
from cutlands.bounded import bounded_lands, box, reach, shows_bounded, shows_far
from cutlands.cuts import Cutting
from cutlands.errors import CutError, NoLand, NoSigns
from cutlands.lands import lands
from cutlands.signs import held
from reckoning import BIG, CUTS_OF_DIMS, all_rows, changed_at_one_place, made, wrong_signs

SQUARE = [(1, 0, 0), (1, 0, 1), (0, 1, 0), (0, 1, 1)]
IN_SQUARE = (1, -1, 1, -1)


def is_right_weights(dims, cuts, land, weights):
    """[41], word by word; d of the cuts have one spot alone where d of them are not told by the others."""
    if not all(weight >= 1 for weight in weights):
        return False
    turned = [[sign * number for number in cut[:dims]] for cut, sign in zip(cuts, land)]
    if any(reckoning.taken_often(turned, weights)):
        return False
    return any(reckoning.rank([cut[:dims] for cut in some]) == dims for some in itertools.combinations(cuts, dims))


def has_no_end(dims, cuts, land, direction):
    """[40], word by word."""
    if not any(direction):
        return False
    return all(
        sign * sum(number * step for number, step in zip(cut[:dims], direction)) >= 0
        for cut, sign in zip(cuts, land)
    )


def told(cutting):
    """All that is told of a cutting's bounded lands, to be held against what is told later."""
    each = [(reach(cutting, land), box(cutting, land)) for land in lands(cutting)]
    return (bounded_lands(cutting), each)


class BoundedCase(unittest.TestCase):
    def each_land(self, cuttings):
        for dims, cuts in cuttings:
            cutting = made(dims, cuts)
            for land in lands(cutting):
                with self.subTest(dims=dims, cuts=cuts, land=land):
                    yield dims, cuts, cutting, land

    def check_reach(self, dims, cuts, cutting, land):
        """Asks, holds the answer against the test's own reckoning, and tells it."""
        answer = reach(cutting, land)
        self.assertIs(type(answer), tuple)
        self.assertEqual(len(answer), 2)
        if answer[0] == "bounded":
            self.assertIs(type(answer[1]), list)
            self.assertEqual([type(weight) for weight in answer[1]], [int] * len(cuts))
            self.assertTrue(is_right_weights(dims, cuts, land, answer[1]))
        else:
            self.assertEqual(answer[0], "far")
            self.assertIs(type(answer[1]), tuple)
            self.assertEqual([type(number) for number in answer[1]], [int] * dims)
            self.assertTrue(has_no_end(dims, cuts, land, answer[1]))
        return answer


class Reach(BoundedCase):
    def test_every_land(self):
        cuttings = reckoning.small_cuttings() + reckoning.great_cuttings() + reckoning.full_cuttings()
        for dims, cuts, cutting, land in self.each_land(cuttings):
            self.check_reach(dims, cuts, cutting, land)

    def test_of_no_cuts_far(self):
        for dims in (1, 2, 3):
            self.assertEqual(self.check_reach(dims, [], Cutting(dims, []), ())[0], "far")

    def test_written_out(self):
        self.assertEqual(self.check_reach(2, SQUARE, made(2, SQUARE), IN_SQUARE)[0], "bounded")
        self.assertEqual(self.check_reach(2, SQUARE, made(2, SQUARE), (1, 1, 1, -1)), ("far", (1, 0)))
        # Between two that go side by side no end lies along them alone.
        answer = self.check_reach(2, SQUARE[:2], made(2, SQUARE[:2]), (1, -1))
        self.assertEqual((answer[0], answer[1][0]), ("far", 0))
        wedge = [(1, -1, 0), (BIG, 1 - BIG, 1)]
        self.assertEqual(self.check_reach(2, wedge, made(2, wedge), (-1, 1))[0], "far")

    def test_a_tube_is_not_bounded(self):
        cuts = [(1, 0, 0, 0), (0, 1, 0, 0), (1, 1, 0, 1)]
        self.assertEqual(self.check_reach(3, cuts, made(3, cuts), (1, 1, -1))[0], "far")

    def test_a_cut_far_off_has_a_weight_too(self):
        cuts = SQUARE + [(3, 7, 1000)]
        self.assertEqual(self.check_reach(2, cuts, made(2, cuts), IN_SQUARE + (-1,))[0], "bounded")


class Shown(BoundedCase):
    def check_weights(self, dims, cuts, cutting, land, weights):
        right = is_right_weights(dims, cuts, land, weights)
        self.assertIs(shows_bounded(cutting, land, weights), right, weights)
        return right

    def check_direction(self, dims, cuts, cutting, land, direction):
        right = has_no_end(dims, cuts, land, direction)
        self.assertIs(shows_far(cutting, land, direction), right, direction)
        return right

    def test_what_is_told_and_what_becomes_of_it(self):
        cuttings = reckoning.small_cuttings() + reckoning.great_cuttings() + reckoning.full_cuttings()[::3]
        for one in self.each_land(cuttings):
            answer = reach(one[2], one[3])
            if answer[0] == "bounded":
                self.check_changed_weights(one, answer[1])
            else:
                self.check_changed_direction(one, answer[1])

    def check_changed_weights(self, one, weights):
        dims, cuts, cutting, land = one
        self.assertTrue(self.check_weights(dims, cuts, cutting, land, weights))
        self.assertTrue(self.check_weights(dims, cuts, cutting, land, [3 * weight for weight in weights]))
        self.assertFalse(self.check_weights(dims, cuts, cutting, land, [-weight for weight in weights]))
        self.assertFalse(self.check_weights(dims, cuts, cutting, land, [0] * len(weights)))
        for changed in changed_at_one_place(weights):
            self.assertFalse(self.check_weights(dims, cuts, cutting, land, changed))
        for direction in itertools.product((-1, 0, 1), repeat=dims):
            self.assertFalse(self.check_direction(dims, cuts, cutting, land, direction))

    def check_changed_direction(self, one, direction):
        dims, cuts, cutting, land = one
        self.assertTrue(self.check_direction(dims, cuts, cutting, land, direction))
        self.assertTrue(self.check_direction(dims, cuts, cutting, land, tuple(7 * step for step in direction)))
        self.check_direction(dims, cuts, cutting, land, tuple(-step for step in direction))
        self.assertFalse(self.check_direction(dims, cuts, cutting, land, (0,) * dims))
        for changed in changed_at_one_place(direction):
            self.check_direction(dims, cuts, cutting, land, changed)
        self.assertFalse(self.check_weights(dims, cuts, cutting, land, [1] * len(cuts)))

    def test_all_small_directions(self):
        found = 0
        for dims, cuts, cutting, land in self.each_land(reckoning.small_cuttings()):
            for direction in itertools.product((-1, 0, 1, 2), repeat=dims):
                found += self.check_direction(dims, cuts, cutting, land, direction)
        self.assertGreater(found, 1000)

    def test_all_small_weights(self):
        found = 0
        cuttings = [
            (1, [(1, 0), (-2, 3)]), (1, [(1, 0), (2, 3), (1, 5)]), (2, [(1, 0, 0), (0, 1, 0), (1, 1, 1)]), (2, SQUARE),
            (2, SQUARE[:2]), (2, [(1, 0, 0), (1, 0, 1), (1, 0, 2)]),
            (3, [(1, 0, 0, 0), (0, 1, 0, 0), (0, 0, 1, 0), (1, 1, 1, 1)]), (3, [(1, 0, 0, 0), (0, 1, 0, 0), (1, 1, 0, 1)]),
        ]
        for dims, cuts, cutting, land in self.each_land(cuttings):
            for weights in itertools.product(range(-1, 3), repeat=len(cuts)):
                found += self.check_weights(dims, cuts, cutting, land, list(weights))
        self.assertGreater(found, 8)

    def test_weights_that_come_to_0_where_no_d_cuts_have_one_spot(self):
        for dims, cuts, land in [
            (2, SQUARE[:2], (1, -1)), (3, [(1, 0, 0, 0), (1, 0, 0, 1)], (1, -1)),
            (3, [(1, 0, 0, 0), (0, 1, 0, 0), (1, 1, 0, 1)], (1, 1, -1)),
        ]:
            self.assertIs(shows_bounded(made(dims, cuts), land, [1] * len(cuts)), False)
        for dims in (1, 2, 3):
            self.assertIs(shows_bounded(Cutting(dims, []), (), []), False)

    def test_a_weight_of_0_is_not_right(self):
        cutting = made(2, SQUARE + [(1, 0, 5)])
        self.assertIs(shows_bounded(cutting, IN_SQUARE + (-1,), [1, 1, 1, 1, 0]), False)
        self.assertIs(shows_bounded(cutting, IN_SQUARE + (-1,), [2, 1, 1, 1, 1]), True)

    def test_anything(self):
        for dims in (1, 2, 3):
            for many in (0, 1, 2, 7):
                cutting = made(dims, CUTS_OF_DIMS[dims][:many])
                for land in (lands(cutting)[0], lands(cutting)[-1]):
                    self.check_anything(dims, many, cutting, land)

    def check_anything(self, dims, many, cutting, land):
        for thing in [0, 1, (1,) * many, [1] * (many + 1)] + things_of_no_number():
            self.assertIs(shows_bounded(cutting, land, thing), False)
            self.assertIs(shows_bounded(cutting, land, [thing] * many), False)
        for thing in [0, 1, [1] * dims, (1,) * (dims + 1), (0,) * dims] + things_of_no_number():
            self.assertIs(shows_far(cutting, land, thing), False)
        for thing in things_of_no_number():
            self.assertIs(shows_far(cutting, land, (thing,) * dims), False)

    def test_right_ones_of_another_form(self):
        cutting = made(2, SQUARE)
        self.assertIs(shows_bounded(cutting, IN_SQUARE, [1, 1, 2, 2]), True)
        for thing in ((1, 1, 2, 2), [True, 1, 2, 2], [1.0, 1, 2, 2], [1, 1, 2, 2, 0], [1, 1, 2], {0: 1}, "1122"):
            self.assertIs(shows_bounded(cutting, IN_SQUARE, thing), False)
        land = (1, 1, 1, 1)
        self.assertIs(shows_far(cutting, land, (1, 0)), True)
        for thing in ([1, 0], (True, 0), (1, False), (1.0, 0), (1, 0, 0), (1,), ((1, 1), (0, 1)), "10"):
            self.assertIs(shows_far(cutting, land, thing), False)


class BoundedLands(BoundedCase):
    def test_all_in_order(self):
        for dims, cuts in reckoning.small_cuttings() + reckoning.great_cuttings() + reckoning.full_cuttings():
            cutting = made(dims, cuts)
            answer = bounded_lands(cutting)
            self.assertIs(type(answer), list)
            right = [land for land in lands(cutting) if self.check_reach(dims, cuts, cutting, land)[0] == "bounded"]
            self.assertEqual(answer, right)

    def test_as_many_as_there_can_be(self):
        for dims in (1, 2, 3):
            for many in range(8):
                cuts = [tuple(k ** power for power in range(1, dims)) + (1, k ** dims) for k in range(1, many + 1)]
                most = math.comb(many - 1, dims) if many else 0
                self.assertEqual(len(bounded_lands(Cutting(dims, cuts))), most)

    def test_written_out(self):
        self.assertEqual(bounded_lands(Cutting(1, [(1, 0), (-1, -1), (1, 5)])), [(1, -1, -1), (1, 1, -1)])
        self.assertEqual(bounded_lands(made(2, SQUARE)), [IN_SQUARE])
        for dims in (1, 2, 3):
            self.assertEqual(bounded_lands(Cutting(dims, [])), [])


class Box(BoundedCase):
    def test_all_ends(self):
        small = reckoning.small_cuttings()
        full = [one for one in reckoning.full_cuttings() if one[0] < 3] + [(3, reckoning.SPACE_CUTS[:5])]
        for dims, cuts in small + reckoning.great_cuttings() + full:
            cutting = made(dims, cuts)
            ends = [reckoning.ends_of_lands(cuts, dims, place) for place in range(dims)]
            for land in lands(cutting):
                with self.subTest(dims=dims, cuts=cuts, land=land):
                    self.check_box(box(cutting, land), [told[land] for told in ends])

    def check_box(self, answer, right):
        self.assertIs(type(answer), list)
        self.assertEqual(len(answer), len(right))
        for pair, ends in zip(answer, right):
            self.assertIs(type(pair), tuple)
            self.assertEqual(pair, tuple(None if end is None else reckoning.as_spot((end,))[0] for end in ends))
            for end in pair:
                if end is not None:
                    self.assertEqual([type(end), type(end[0]), type(end[1])], [tuple, int, int])

    def test_ends_of_six_planes(self):
        # Here each end is shown by a seventh plane there: no spot of the land lies beyond it, some near to it do.
        cutting = made(3, reckoning.by_chance(11, 3, 6, 9))
        for land in lands(cutting):
            for place, ends in enumerate(box(cutting, land)):
                for end, outward in zip(ends, (-1, 1)):
                    with self.subTest(land=land, place=place, outward=outward):
                        self.check_end(cutting, land, place, end, outward)

    def check_end(self, cutting, land, place, end, outward):
        def some_lie(sign, number):
            """Whether some spot of the land lies so to the plane at a number of one dim."""
            plane = [0, 0, 0, number.numerator]
            plane[place] = number.denominator
            return held(cutting.with_one(tuple(plane)), land + (sign,))[0] == "spot"

        if end is None:
            self.assertTrue(some_lie(outward, Fraction(outward * 10 ** 40)))
        else:
            self.assertFalse(some_lie(outward, Fraction(*end)))
            self.assertFalse(some_lie(0, Fraction(*end)))
            self.assertTrue(some_lie(outward, Fraction(*end) - outward * Fraction(1, 10 ** 40)))

    def test_bounded_just_where_no_end_is_missing(self):
        for dims, cuts, cutting, land in self.each_land(reckoning.small_cuttings() + reckoning.full_cuttings()):
            missing = any(None in ends for ends in box(cutting, land))
            self.assertEqual(reach(cutting, land)[0], "far" if missing else "bounded")

    def test_written_out(self):
        self.assertEqual(box(made(2, SQUARE), IN_SQUARE), [((0, 1), (1, 1)), ((0, 1), (1, 1))])
        self.assertEqual(box(made(2, SQUARE), (1, 1, 1, -1)), [((1, 1), None), ((0, 1), (1, 1))])
        self.assertEqual(box(Cutting(1, [(-2, 3)]), (1,)), [(None, (-3, 2))])
        three = Cutting(2, [(1, -2, 0), (-2, 1, 0), (1, 1, 6)])
        self.assertEqual(box(three, (-1, -1, -1)), [((0, 1), (4, 1)), ((0, 1), (4, 1))])
        wedge = Cutting(2, [(1, 1, 3), (1, -1, 0)])
        self.assertEqual(box(wedge, (1, 1)), [((3, 2), None), (None, None)])
        # An end that no spot of the closed land has: the land lies along a cut without end.
        slab = Cutting(2, [(1, 0, 0), (1, 0, 2)])
        self.assertEqual(box(slab, (1, -1)), [((0, 1), (2, 1)), (None, None)])
        for dims in (1, 2, 3):
            self.assertEqual(box(Cutting(dims, []), ()), [(None, None)] * dims)

    def test_great_numbers(self):
        cutting = Cutting(1, [(BIG, BIG - 1), (BIG - 1, BIG - 2)])
        self.assertEqual(box(cutting, (-1, 1)), [((BIG - 2, BIG - 1), (BIG - 1, BIG))])


class Refused(unittest.TestCase):
    QUESTIONS = [
        reach, box, lambda cutting, signs: shows_bounded(cutting, signs, None),
        lambda cutting, signs: shows_bounded(cutting, signs, [1] * cutting.many()),
        lambda cutting, signs: shows_far(cutting, signs, None),
        lambda cutting, signs: shows_far(cutting, signs, (1,) * cutting.dims()),
    ]

    def test_no_signs(self):
        for dims in (1, 2, 3):
            for many in (0, 1, 2, 7):
                cutting = made(dims, CUTS_OF_DIMS[dims][:many])
                for thing in wrong_signs(many):
                    for question in self.QUESTIONS:
                        with self.assertRaises(NoSigns):
                            question(cutting, thing)

    def test_no_land(self):
        for dims, cuts in reckoning.small_cuttings():
            cutting = made(dims, cuts)
            right = reckoning.all_lands(cuts, dims)
            for signs in all_rows(len(cuts)):
                if signs not in right:
                    for question in self.QUESTIONS:
                        with self.assertRaises(NoLand):
                            question(cutting, signs)


class Kept(unittest.TestCase):
    """[2] and [3]."""

    def test_lists_that_were_told_may_be_changed(self):
        cutting = made(2, SQUARE)
        before = told(cutting)
        untouched = told(cutting)
        for question in (
            bounded_lands, lambda cutting: reach(cutting, IN_SQUARE)[1], lambda cutting: box(cutting, IN_SQUARE),
        ):
            for change in (list.clear, list.reverse, lambda row: row.append(None)):
                change(question(cutting))
                self.assertEqual(told(cutting), before)
        self.assertEqual(untouched, before)
        self.assertEqual(cutting.cuts(), SQUARE)

    def test_a_list_handed_in_is_as_it_was(self):
        for weights in ([1, 1, 2, 2], [0, 1], [None] * 4, [[], [], [], []]):
            before = repr(weights)
            shows_bounded(made(2, SQUARE), IN_SQUARE, weights)
            shows_far(made(2, SQUARE), IN_SQUARE, weights)
            self.assertEqual(repr(weights), before)

    def test_asked_again_also_behind_another_cutting(self):
        cuttings = [made(dims, CUTS_OF_DIMS[dims][:5]) for dims in (1, 2, 3)]
        before = [told(cutting) for cutting in cuttings]
        self.assertEqual([told(cutting) for cutting in reversed(cuttings)], before[::-1])
        self.assertEqual([told(made(dims, CUTS_OF_DIMS[dims][:5])) for dims in (1, 2, 3)], before)

    def test_behind_a_refusal(self):
        cutting = made(2, SQUARE)
        before = told(cutting)
        for question in Refused.QUESTIONS:
            for signs in (None, (0, 0, 0, 0), (-1, 1, 1, 1)):
                with self.assertRaises(CutError):
                    question(cutting, signs)
        self.assertEqual(told(cutting), before)


class Interface(unittest.TestCase):
    def test_names_and_arguments(self):
        for name, arguments in [
            ("reach", ["signs"]), ("shows_bounded", ["signs", "thing"]), ("shows_far", ["signs", "thing"]),
            ("bounded_lands", []), ("box", ["signs"]),
        ]:
            self.assertEqual(list(inspect.signature(getattr(module, name)).parameters), ["cutting"] + arguments)


if __name__ == "__main__":
    unittest.main()
