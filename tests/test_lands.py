"""Lands: [30], [31], and [2], [3] of them."""

import functools
import inspect
import itertools
import math
import unittest

import reckoning
from anything import things_of_no_number
from cutlands import lands as module
from cutlands.cuts import Cutting
from cutlands.errors import CutError, NoLand, NoNumber, NoSigns, NoSpot
from cutlands.lands import gone_through, land_at, land_of, land_spots, lands, number_of, split
from reckoning import BIG, CUTS_OF_DIMS, SIDE_BY_SIDE, THROUGH_ONE_SPOT, all_rows, made, wrong_signs


@functools.cache
def right_lands_of(dims, cuts):
    return reckoning.all_lands(list(cuts), dims)


def right_lands(dims, cuts):
    return list(right_lands_of(dims, tuple(cuts)))


def all_cuttings():
    return reckoning.small_cuttings() + reckoning.great_cuttings() + reckoning.full_cuttings()


def told(cutting):
    """All that is told of a cutting's lands, to be held against what is told later."""
    through = [gone_through(cutting, k) for k in range(cutting.many())]
    return (lands(cutting), land_spots(cutting), split(cutting), through)


class LandCase(unittest.TestCase):
    def each_cutting(self):
        for dims, cuts in all_cuttings():
            with self.subTest(dims=dims, cuts=cuts):
                yield dims, cuts, made(dims, cuts)


class Lands(LandCase):
    def test_all_lands_in_order(self):
        for dims, cuts, cutting in self.each_cutting():
            answer = lands(cutting)
            self.assertIs(type(answer), list)
            for land in answer:
                self.assertIs(type(land), tuple)
                self.assertEqual([type(sign) for sign in land], [int] * len(cuts))
            self.assertEqual(answer, right_lands(dims, cuts))

    def test_written_out(self):
        self.assertEqual(lands(Cutting(1, [(1, 0), (-1, -1)])), [(-1, 1), (1, -1), (1, 1)])
        self.assertEqual(lands(Cutting(2, [(1, 0, 0), (1, 0, 1)])), [(-1, -1), (1, -1), (1, 1)])
        three = Cutting(2, [(1, 0, 0), (0, 1, 0), (1, 1, 1)])
        self.assertEqual(len(lands(three)), 7)
        self.assertNotIn((-1, -1, 1), lands(three))

    def test_of_no_cuts_one_land(self):
        for dims in (1, 2, 3):
            cutting = Cutting(dims, [])
            self.assertEqual(lands(cutting), [()])
            self.assertEqual(land_at(cutting, 0), ())
            self.assertEqual(number_of(cutting, ()), 0)
            self.assertEqual(land_of(cutting, ((1, 2),) * dims), ())
            self.assertEqual(len(land_spots(cutting)), 1)
            self.assertEqual(cutting.sides(land_spots(cutting)[0]), ())
            self.assertEqual(split(cutting), [])

    def test_as_many_as_there_can_be(self):
        for dims in (1, 2, 3):
            for many in range(8):
                # Cuts that touch a bent line lie in no special way.
                cuts = [tuple(k ** power for power in range(1, dims)) + (1, k ** dims) for k in range(1, many + 1)]
                most = sum(math.comb(many, chosen) for chosen in range(dims + 1))
                self.assertEqual(len(lands(Cutting(dims, cuts))), most)

    def test_side_by_side_and_through_one_spot(self):
        for dims in (1, 2, 3):
            self.assertEqual(len(lands(made(dims, SIDE_BY_SIDE[dims]))), len(SIDE_BY_SIDE[dims]) + 1)
        self.assertEqual(len(lands(made(2, THROUGH_ONE_SPOT[2]))), 10)

    def test_a_spot_in_each(self):
        for dims, cuts, cutting in self.each_cutting():
            spots = land_spots(cutting)
            self.assertIs(type(spots), list)
            # The cutting itself tells whether it is a spot, in lowest terms.
            self.assertEqual([cutting.sides(spot) for spot in spots], right_lands(dims, cuts))
            for spot, land in zip(spots, right_lands(dims, cuts)):
                self.assertEqual(reckoning.sides(cuts, reckoning.as_fractions(spot)), land)


class Numbers(LandCase):
    def test_each_number_and_each_land(self):
        for dims, cuts, cutting in self.each_cutting():
            for number, land in enumerate(right_lands(dims, cuts)):
                self.assertEqual(land_at(cutting, number), land)
                told_number = number_of(cutting, land)
                self.assertIs(type(told_number), int)
                self.assertEqual(told_number, number)

    def test_no_number(self):
        for dims, cuts in reckoning.small_cuttings():
            cutting = made(dims, cuts)
            many = len(right_lands(dims, cuts))
            for thing in [-1, -many, many, many + 1, BIG, -BIG] + things_of_no_number():
                with self.assertRaises(NoNumber):
                    land_at(cutting, thing)

    def test_no_signs_then_no_land(self):
        for dims in (1, 2, 3):
            for many in (0, 1, 2, 7):
                cutting = made(dims, CUTS_OF_DIMS[dims][:many])
                for thing in wrong_signs(many):
                    with self.assertRaises(NoSigns):
                        number_of(cutting, thing)

    def test_signs_of_no_land(self):
        refused = 0
        for dims, cuts in reckoning.small_cuttings():
            cutting = made(dims, cuts)
            for signs in all_rows(len(cuts)):
                if signs not in right_lands(dims, cuts):
                    refused += 0 not in signs
                    with self.assertRaises(NoLand):
                        number_of(cutting, signs)
        self.assertGreater(refused, 100)

    def test_signs_with_0_that_a_spot_has(self):
        cutting = Cutting(2, [(1, 0, 0), (0, 1, 0)])
        for signs in ((0, 1), (1, 0), (0, 0), (0, -1)):
            with self.assertRaises(NoLand):
                number_of(cutting, signs)


class LandOf(LandCase):
    def test_spots_and_their_lands(self):
        parts = [(0, 1), (1, 1), (3, 2), (-4, 3), (BIG, BIG - 1)]
        for dims, cuts, cutting in self.each_cutting():
            for spot in itertools.product(parts, repeat=dims):
                right = reckoning.sides(cuts, reckoning.as_fractions(spot))
                if 0 in right:
                    with self.assertRaises(NoLand):
                        land_of(cutting, spot)
                else:
                    self.assertEqual(land_of(cutting, spot), right)

    def test_a_spot_of_each_land(self):
        for dims, cuts, cutting in self.each_cutting():
            self.assertEqual([land_of(cutting, spot) for spot in land_spots(cutting)], right_lands(dims, cuts))

    def test_on_a_cut(self):
        cutting = Cutting(2, [(1, 0, 0), (2, -1, 3)])
        for spot in (((0, 1), (5, 1)), ((3, 2), (0, 1)), ((0, 1), (-3, 1))):
            with self.assertRaises(NoLand):
                land_of(cutting, spot)

    def test_no_spot(self):
        for dims in (1, 2, 3):
            for cutting in (Cutting(dims, []), made(dims, CUTS_OF_DIMS[dims])):
                nought = ((0, 1),) * dims
                things = [0, 1, list(nought), nought + ((0, 1),), nought[1:], nought[1:] + ((0, 2),)]
                for thing in things + things_of_no_number():
                    with self.assertRaises(NoSpot):
                        land_of(cutting, thing)


class OneByOne(LandCase):
    def test_split(self):
        for dims, cuts, cutting in self.each_cutting():
            answer = split(cutting)
            self.assertIs(type(answer), list)
            self.assertEqual([type(number) for number in answer], [int] * len(cuts))
            self.assertEqual(sum(answer) + 1, len(right_lands(dims, cuts)))
            for k in range(len(cuts)):
                ahead = right_lands(dims, cuts[:k])
                self.assertEqual(answer[k], len(right_lands(dims, cuts[:k + 1])) - len(ahead))

    def test_split_written_out(self):
        self.assertEqual(split(Cutting(1, [(1, 0), (1, 5), (2, 3)])), [1, 1, 1])
        self.assertEqual(split(Cutting(2, [(1, 0, 0), (1, 0, 1), (0, 1, 0), (1, 1, 0)])), [1, 1, 3, 3])
        self.assertEqual(split(Cutting(2, [(1, 0, 1), (0, 1, 2), (1, 1, 3), (-1, 1, 1)])), [1, 2, 2, 2])
        self.assertEqual(split(Cutting(3, [(1, 0, 0, 0), (0, 1, 0, 0), (0, 0, 1, 0)])), [1, 2, 4])

    def test_gone_through_by_faces(self):
        for dims, cuts in reckoning.small_cuttings():
            cutting = made(dims, cuts)
            faces = reckoning.all_faces(cuts, dims)
            for k in range(len(cuts)):
                on_it = [signs[:k] + signs[k + 1:] for signs in faces if signs[k] == 0]
                right = sorted(signs for signs in on_it if 0 not in signs)
                self.assertEqual(gone_through(cutting, k), right, (dims, cuts, k))

    def test_gone_through_by_lands(self):
        for dims, cuts, cutting in self.each_cutting():
            for k in range(len(cuts)):
                answer = gone_through(cutting, k)
                self.assertIs(type(answer), list)
                # A land without the cut is gone through where there is a land at both sides of it.
                rests = [land[:k] + land[k + 1:] for land in right_lands(dims, cuts)]
                self.assertEqual(answer, sorted(rest for rest in set(rests) if rests.count(rest) == 2))

    def test_the_only_cut_goes_through_all(self):
        for dims in (1, 2, 3):
            self.assertEqual(gone_through(made(dims, CUTS_OF_DIMS[dims][:1]), 0), [()])

    def test_gone_through_by_no_cut(self):
        for dims in (1, 2, 3):
            for many in (0, 1, 2, 7):
                cutting = made(dims, CUTS_OF_DIMS[dims][:many])
                for thing in [-1, -many, many, many + 1, BIG, -BIG] + things_of_no_number():
                    if thing.__class__ is not int or thing < 0 or thing >= many:
                        with self.assertRaises(NoNumber):
                            gone_through(cutting, thing)


class Kept(LandCase):
    """[2] and [3]."""

    def test_lists_that_were_told_may_be_changed(self):
        cutting = made(2, reckoning.PLANE_CUTS)
        before = told(cutting)
        untouched = told(cutting)
        for question in (lands, land_spots, split, lambda cutting: gone_through(cutting, 2)):
            for change in (list.clear, list.reverse, lambda row: row.append(None)):
                change(question(cutting))
                self.assertEqual(told(cutting), before)
        self.assertEqual(untouched, before)
        self.assertEqual(cutting.cuts(), reckoning.PLANE_CUTS)

    def test_asked_again_also_behind_another_cutting(self):
        cuttings = [made(dims, CUTS_OF_DIMS[dims][:5]) for dims in (1, 2, 3)]
        before = [told(cutting) for cutting in cuttings]
        self.assertEqual([told(cutting) for cutting in reversed(cuttings)], before[::-1])
        self.assertEqual([told(made(dims, CUTS_OF_DIMS[dims][:5])) for dims in (1, 2, 3)], before)

    def test_behind_a_refusal(self):
        cutting = made(2, reckoning.PLANE_CUTS[:4])
        before = told(cutting)
        for question in [
            lambda: land_at(cutting, 99), lambda: number_of(cutting, None), lambda: number_of(cutting, (0,) * 4),
            lambda: land_of(cutting, None), lambda: land_of(cutting, ((3, 1), (0, 1))), lambda: gone_through(cutting, 4),
        ]:
            with self.assertRaises(CutError):
                question()
            self.assertEqual(told(cutting), before)


class Interface(unittest.TestCase):
    def test_names_and_arguments(self):
        for name, arguments in [
            ("lands", []), ("land_at", ["number"]), ("number_of", ["signs"]), ("land_of", ["spot"]),
            ("land_spots", []), ("split", []), ("gone_through", ["k"]),
        ]:
            self.assertEqual(list(inspect.signature(getattr(module, name)).parameters), ["cutting"] + arguments)


if __name__ == "__main__":
    unittest.main()
