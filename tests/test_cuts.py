"""Spots, cuts and cuttings: [11], [12], and [2], [3] of them."""

import copy
import inspect
import itertools
import unittest
from fractions import Fraction

from anything import things_of_no_number
from cutlands.cuts import Cutting
from cutlands.errors import CutError, NoCutting, NoNumber, NoSpot

LINE_CUTS = [(1, 0), (1, 1), (-2, 3), (3, -4), (1, -5), (7, 2), (-1, 9)]
PLANE_CUTS = [(1, 0, 3), (2, -1, 3), (0, 1, 0), (0, -2, 5), (1, 1, 0), (-3, 2, 1), (1, 0, 4)]
SPACE_CUTS = [
    (1, 0, 0, 0), (0, 1, 0, 0), (0, 0, 1, 0), (1, 1, 1, 1), (2, -3, 5, 7), (0, 0, -1, 4), (1, 1, 1, 2),
]
CUTS_OF_DIMS = {1: LINE_CUTS, 2: PLANE_CUTS, 3: SPACE_CUTS}
EIGHTH_CUT = {1: (1, 100), 2: (1, 0, 100), 3: (1, 0, 0, 100)}
PARTS = [(0, 1), (1, 1), (-1, 1), (3, 2), (-4, 3), (3, 1), (10 ** 59 + 1, 10 ** 59)]
BIG = 10 ** 60 - 1


def right_side(cut, spot):
    left = sum(number * Fraction(*part) for number, part in zip(cut, spot)) - cut[-1]
    return (left > 0) - (left < 0)


def one_cutting(dims):
    return Cutting(dims, list(CUTS_OF_DIMS[dims]))


def told(cutting):
    """All that a cutting tells, to be held against what it tells later."""
    spot = tuple((1, 2) for place in range(cutting.dims()))
    rests = [cutting.without(k).cuts() for k in range(cutting.many())]
    return (cutting.dims(), cutting.cuts(), cutting.many(), cutting.sides(spot), rests)


class CuttingCase(unittest.TestCase):
    def refused(self, at, dims, cuts):
        with self.assertRaises(NoCutting) as caught:
            Cutting(dims, cuts)
        self.assertIs(type(caught.exception.at), int)
        self.assertEqual(caught.exception.at, at)


class Sides(CuttingCase):
    def test_the_documents_example(self):
        self.assertEqual(Cutting(2, [(2, -1, 3)]).sides(((1, 1), (0, 1))), (-1,))

    def test_written_out_in_one_dim(self):
        cutting = Cutting(1, [(2, 3), (-2, 5)])
        self.assertEqual(cutting.sides(((2, 1),)), (1, -1))
        self.assertEqual(cutting.sides(((3, 2),)), (0, -1))
        self.assertEqual(cutting.sides(((1, 1),)), (-1, -1))
        self.assertEqual(cutting.sides(((-5, 2),)), (-1, 0))
        self.assertEqual(cutting.sides(((-3, 1),)), (-1, 1))

    def test_written_out_in_two_and_three_dims(self):
        self.assertEqual(Cutting(2, [(1, 2, 2), (-1, 0, 0)]).sides(((1, 1), (1, 2))), (0, -1))
        self.assertEqual(Cutting(2, [(1, 2, 2), (2, 1, 2)]).sides(((0, 1), (3, 2))), (1, -1))
        cutting = Cutting(3, [(1, 2, 3, 1), (3, 2, 1, 1), (0, 0, 1, 0)])
        self.assertEqual(cutting.sides(((1, 2), (1, 4), (0, 1))), (0, 1, 0))
        self.assertEqual(cutting.sides(((-1, 1), (1, 1), (1, 3))), (1, -1, 1))

    def test_many_spots_of_each_dims(self):
        for dims in (1, 2, 3):
            cutting = one_cutting(dims)
            for spot in itertools.product(PARTS, repeat=dims):
                right = tuple(right_side(cut, spot) for cut in CUTS_OF_DIMS[dims])
                answer = cutting.sides(spot)
                self.assertIs(type(answer), tuple)
                self.assertEqual(answer, right, spot)

    def test_sixty_figures_close_to_a_cut(self):
        cutting = Cutting(2, [(BIG, -BIG, 0), (BIG, BIG, BIG)])
        self.assertEqual(cutting.sides(((BIG - 1, BIG), (BIG - 2, BIG - 1))), (1, 1))
        self.assertEqual(cutting.sides(((BIG - 2, BIG - 1), (BIG - 1, BIG))), (-1, 1))
        self.assertEqual(cutting.sides(((1, BIG), (BIG - 1, BIG))), (-1, 0))
        self.assertEqual(cutting.sides(((1, BIG), (BIG - 2, BIG - 1))), (-1, -1))

    def test_of_no_cuts(self):
        for dims in (1, 2, 3):
            self.assertEqual(Cutting(dims, []).sides(((1, 2),) * dims), ())

    def test_a_spot_of_other_dims_is_refused(self):
        for dims in (1, 2, 3):
            for length in (0, 1, 2, 3, 4):
                if length != dims:
                    with self.subTest(dims=dims, length=length), self.assertRaises(NoSpot):
                        one_cutting(dims).sides(((1, 2),) * length)

    def test_parts_that_are_no_fractions_are_refused(self):
        wrong_parts = [
            (2, 4), (0, 2), (0, -1), (1, 0), (0, 0), (1, -2), (-1, -1), (1,), (1, 2, 3), (), [1, 2],
            (True, 1), (1, True), (False, 1), (1, False), (1.0, 1), (1, 1.0), ("1", 1), (1, None), (None, None),
            (10 ** 59, 10 ** 58), (BIG * 2, BIG), ((1, 1), 1), 1, 0,
        ] + things_of_no_number()
        for dims in (1, 2, 3):
            for place in range(dims):
                for number, part in enumerate(wrong_parts):
                    spot = [(1, 2)] * dims
                    spot[place] = part
                    for cutting in (one_cutting(dims), Cutting(dims, [])):
                        with self.subTest(dims=dims, place=place, number=number), self.assertRaises(NoSpot):
                            cutting.sides(tuple(spot))

    def test_anything_that_is_no_spot_is_refused(self):
        for dims in (1, 2, 3):
            things = things_of_no_number() + [0, 1, -1, [(1, 2)] * dims, (1,) * dims, [[1, 2]] * dims, ([1, 2],) * dims]
            for number, thing in enumerate(things):
                with self.subTest(dims=dims, number=number), self.assertRaises(NoSpot):
                    one_cutting(dims).sides(thing)


class Making(CuttingCase):
    def test_none_to_seven_cuts_of_each_dims(self):
        for dims in (1, 2, 3):
            for many in range(8):
                cuts = CUTS_OF_DIMS[dims][:many]
                cutting = Cutting(dims, list(cuts))
                with self.subTest(dims=dims, many=many):
                    self.assertIs(type(cutting.dims()), int)
                    self.assertEqual(cutting.dims(), dims)
                    self.assertIs(type(cutting.cuts()), list)
                    self.assertEqual(cutting.cuts(), cuts)
                    self.assertIs(type(cutting.many()), int)
                    self.assertEqual(cutting.many(), many)

    def test_cuts_that_run_side_by_side_stand_beside_one_another(self):
        self.assertEqual(Cutting(2, [(1, 2, 3), (1, 2, 4), (2, 4, 0), (-1, -2, 3)]).many(), 4)

    def test_numbers_alike_but_at_one_place_stand_beside_one_another(self):
        for one, other in [
            ((1, 0, 0), (0, 1, 0)), ((1, 2, 3), (1, 3, 3)), ((0, 1, 1), (1, 1, 1)), ((1, 1, 1), (0, 1, 1)),
            ((2, 0, 4), (1, 1, 2)), ((1, 2, 0), (2, 3, 0)), ((1, 2, 3), (-1, 2, 3)),
        ]:
            self.assertEqual(Cutting(2, [one, other]).cuts(), [one, other])
        for one, other in [((1, 0, 0, 5), (1, 0, 1, 5)), ((0, 0, 1, 5), (0, 1, 0, 5)), ((1, 2, 3, 0), (1, 2, 4, 0))]:
            self.assertEqual(Cutting(3, [one, other]).cuts(), [one, other])

    def test_cuts_are_told_as_they_were_handed_in(self):
        cuts = [(4, -2, 6), (0, -3, -9), (BIG, -BIG, BIG - 1)]
        self.assertEqual(Cutting(2, list(cuts)).cuts(), cuts)

    def test_dims_that_are_none(self):
        for dims in (0, 4, -1, -2, 10 ** 60):
            self.refused(-1, dims, [])
        for thing in things_of_no_number():
            self.refused(-1, thing, [])

    def test_a_list_that_is_none(self):
        for thing in [0, 1, (), ((1, 0, 3),), {0: (1, 0, 3)}, iter([])] + things_of_no_number():
            if not isinstance(thing, list):
                self.refused(-1, 2, thing)

    def test_wrong_dims_come_ahead_of_wrong_cuts(self):
        self.refused(-1, 4, [None])
        self.refused(-1, True, [(1, 0), (1, 0)])
        self.refused(-1, 0, [()])


class NoCuts(CuttingCase):
    def refused_behind(self, dims, thing):
        """Refused at each place, behind as many right cuts, with right or wrong things behind it."""
        cuts = CUTS_OF_DIMS[dims]
        for place in (0, 1, 3, 6):
            self.refused(place, dims, cuts[:place] + [thing])
            self.refused(place, dims, cuts[:place] + [thing] + cuts[place:])
            self.refused(place, dims, cuts[:place] + [thing, None, None])

    def test_another_length(self):
        for dims in (1, 2, 3):
            for length in range(7):
                if length != dims + 1:
                    self.refused_behind(dims, (1,) * length)

    def test_no_tuple(self):
        for dims in (1, 2, 3):
            for thing in [[1] * (dims + 1), 1, 0, "12345"[:dims + 1]] + things_of_no_number():
                self.refused_behind(dims, thing)

    def test_a_thing_in_it_that_is_no_whole_number(self):
        for dims in (1, 2, 3):
            for place in range(dims + 1):
                for thing in things_of_no_number():
                    numbers = [5] * (dims + 1)
                    numbers[place] = thing
                    self.refused_behind(dims, tuple(numbers))

    def test_all_numbers_nought(self):
        for dims in (1, 2, 3):
            for last in (0, 1, -1, BIG):
                self.refused_behind(dims, (0,) * dims + (last,))

    def test_the_same_spots_as_one_ahead(self):
        for dims in (1, 2, 3):
            cuts = CUTS_OF_DIMS[dims]
            for place in range(6):
                for often in (1, -1, 2, -3, 10 ** 58):
                    again = tuple(often * number for number in cuts[place])
                    self.refused(6, dims, cuts[:6] + [again])
                    self.refused(place + 1, dims, cuts[:place + 1] + [again] + cuts[place + 1:])

    def test_the_same_spots_where_neither_is_a_whole_number_of_times_the_other(self):
        self.refused(1, 2, [(4, -6, 10), (-6, 9, -15)])
        self.refused(2, 3, [(1, 0, 0, 0), (0, 4, 6, 0), (0, -6, -9, 0)])
        self.refused(1, 1, [(2, 4), (3, 6)])

    def test_the_eighth_one(self):
        for dims in (1, 2, 3):
            cuts = CUTS_OF_DIMS[dims]
            for eighth in (EIGHTH_CUT[dims], None, cuts[0], (0,) * (dims + 1)):
                self.refused(7, dims, cuts + [eighth])
                self.refused(7, dims, cuts + [eighth, None, EIGHTH_CUT[dims]])

    def test_the_first_of_several_is_told(self):
        self.refused(1, 2, [(1, 0, 0), (2, 0, 0), (0, 0, 1), None])
        self.refused(1, 2, [(1, 0, 0), (0, 0, 1), (2, 0, 0)])
        self.refused(3, 2, PLANE_CUTS[:3] + [PLANE_CUTS[0]] + PLANE_CUTS[3:] + [None])


class WithoutAndWithOne(CuttingCase):
    def test_without_each(self):
        for dims in (1, 2, 3):
            cuts = CUTS_OF_DIMS[dims]
            for k in range(7):
                rest = one_cutting(dims).without(k)
                self.assertIsInstance(rest, Cutting)
                self.assertEqual(rest.dims(), dims)
                self.assertEqual(rest.cuts(), cuts[:k] + cuts[k + 1:])
                self.assertEqual(rest.many(), 6)

    def test_without_the_only_one(self):
        rest = Cutting(3, [(1, 2, 3, 4)]).without(0)
        self.assertEqual((rest.dims(), rest.cuts(), rest.many()), (3, [], 0))

    def test_without_what_is_no_number(self):
        for dims in (1, 2, 3):
            for many in (0, 1, 2, 7):
                cutting = Cutting(dims, CUTS_OF_DIMS[dims][:many])
                for number, k in enumerate([-1, -many, many, many + 1, 10 ** 60, -BIG] + things_of_no_number()):
                    with self.subTest(dims=dims, many=many, number=number), self.assertRaises(NoNumber):
                        cutting.without(k)

    def test_with_one_more(self):
        for dims in (1, 2, 3):
            cuts = CUTS_OF_DIMS[dims]
            for many in range(7):
                more = Cutting(dims, cuts[:many]).with_one(cuts[many])
                self.assertIsInstance(more, Cutting)
                self.assertEqual((more.dims(), more.cuts(), more.many()), (dims, cuts[:many + 1], many + 1))

    def test_with_one_that_is_refused(self):
        for dims in (1, 2, 3):
            cuts = CUTS_OF_DIMS[dims]
            for many in range(8):
                turned = [tuple(-2 * number for number in cut) for cut in cuts[:many]]
                wrong = [(0,) * dims + (1,), (1,) * dims, [1] * (dims + 1), (True,) * (dims + 1)] + turned
                self.refused_with(Cutting(dims, cuts[:many]), many, wrong + things_of_no_number())

    def test_with_an_eighth_one(self):
        for dims in (1, 2, 3):
            self.refused_with(one_cutting(dims), 7, [EIGHTH_CUT[dims]])

    def refused_with(self, cutting, at, things):
        for number, thing in enumerate(things):
            with self.subTest(at=at, number=number), self.assertRaises(NoCutting) as caught:
                cutting.with_one(thing)
            self.assertEqual(caught.exception.at, at)

    def test_what_was_taken_out_may_come_back_behind(self):
        cutting = one_cutting(2)
        back = cutting.without(2).with_one(PLANE_CUTS[2])
        self.assertEqual(back.cuts(), PLANE_CUTS[:2] + PLANE_CUTS[3:] + [PLANE_CUTS[2]])


class Kept(CuttingCase):
    """[2] and [3]: nothing handed in is changed, nothing told hangs on anything else."""

    def test_a_list_handed_in_is_as_it_was(self):
        cuts = list(PLANE_CUTS)
        Cutting(2, cuts).without(0).cuts()
        self.assertEqual(cuts, PLANE_CUTS)

    def test_a_list_that_was_refused_is_as_it_was(self):
        cuts = [(1, 0, 0), [1, 1, 1], None]
        before = copy.deepcopy(cuts)
        self.refused(1, 2, cuts)
        self.assertEqual(cuts, before)

    def test_a_list_handed_in_may_be_changed(self):
        cuts = [(1, 0, 0), (0, 1, 0)]
        cutting = Cutting(2, cuts)
        before = told(cutting)
        cuts.append((1, 1, 1))
        self.assertEqual(told(cutting), before)
        cuts[0] = (5, 5, 5)
        cuts.pop()
        self.assertEqual(told(cutting), before)
        cuts.clear()
        self.assertEqual(told(cutting), before)

    def test_a_list_that_was_told_may_be_changed(self):
        cutting = one_cutting(2)
        before = told(cutting)
        for change in (list.clear, list.reverse, list.pop, lambda cuts: cuts.append((9, 9, 9))):
            untouched = cutting.cuts()
            change(cutting.cuts())
            self.assertEqual(untouched, PLANE_CUTS)
            self.assertEqual(told(cutting), before)

    def test_lists_of_cuttings_made_of_one_another_are_their_own(self):
        cutting = one_cutting(2).without(6)
        more = cutting.with_one((5, 5, 1))
        rest = cutting.without(0)
        before = (told(cutting), told(more), told(rest))
        for one in (cutting, more, rest):
            one.cuts().clear()
            self.assertEqual((told(cutting), told(more), told(rest)), before)

    def test_without_and_with_one_leave_the_cutting_as_it_is(self):
        cutting = Cutting(2, PLANE_CUTS[:5])
        before = told(cutting)
        cutting.without(1)
        self.assertEqual(told(cutting), before)
        cutting.with_one(PLANE_CUTS[5])
        self.assertEqual(told(cutting), before)

    def test_asked_again_the_same_is_answered(self):
        for dims in (1, 2, 3):
            cutting = one_cutting(dims)
            self.assertEqual(told(cutting), told(cutting))
            self.assertEqual(told(cutting), told(one_cutting(dims)))

    def test_behind_a_refusal_all_is_as_ahead_of_it(self):
        cutting = Cutting(2, PLANE_CUTS[:5])
        before = told(cutting)
        for question in [
            lambda: cutting.sides(((1, 2),)), lambda: cutting.sides(None), lambda: cutting.without(5),
            lambda: cutting.without(-1), lambda: cutting.with_one((0, 0, 1)), lambda: cutting.with_one(PLANE_CUTS[0]),
            lambda: Cutting(2, [None]), lambda: Cutting(9, []),
        ]:
            for once_more in range(2):
                with self.assertRaises(CutError):
                    question()
                self.assertEqual(told(cutting), before)

    def test_a_list_that_was_refused_may_be_mended_and_handed_in_again(self):
        cuts = [(1, 0, 0), (2, 0, 0)]
        self.refused(1, 2, cuts)
        cuts[1] = (2, 0, 1)
        self.assertEqual(Cutting(2, cuts).cuts(), [(1, 0, 0), (2, 0, 1)])


class Interface(unittest.TestCase):
    def test_names_and_arguments(self):
        self.assertEqual(list(inspect.signature(Cutting).parameters), ["dims", "cuts"])
        for name, arguments in [
            ("dims", []), ("many", []), ("cuts", []), ("sides", ["spot"]), ("without", ["k"]), ("with_one", ["cut"]),
        ]:
            self.assertEqual(list(inspect.signature(getattr(Cutting, name)).parameters), ["self"] + arguments, name)


if __name__ == "__main__":
    unittest.main()
