"""Walls: [70], and [2], [3] of them."""

import functools
import inspect
import unittest

import reckoning
from anything import things_of_no_number
from cutlands import walls as module
from cutlands.cuts import Cutting
from cutlands.errors import CutError, NoLand, NoNumber, NoSigns
from cutlands.lands import lands
from cutlands.walls import land_behind, walls
from reckoning import BIG, CUTS_OF_DIMS, SIDE_BY_SIDE, THROUGH_ONE_SPOT, all_rows, made, wrong_signs

SQUARE = [(1, 0, 0), (1, 0, 1), (0, 1, 0), (0, 1, 1)]
IN_SQUARE = (1, -1, 1, -1)


@functools.cache
def right_lands_of(dims, cuts):
    return reckoning.all_lands(list(cuts), dims)


def other_sign(land, k):
    return land[:k] + (-land[k],) + land[k + 1:]


def nought(land, k):
    return land[:k] + (0,) + land[k + 1:]


def told(cutting):
    """All that is told of a cutting's walls, to be held against what is told later."""
    each = []
    for land in lands(cutting):
        found = walls(cutting, land)
        each.append((list(found), [land_behind(cutting, land, k) for k, spot in found]))
    return each


class WallCase(unittest.TestCase):
    def each_land(self, cuttings):
        for dims, cuts in cuttings:
            right = right_lands_of(dims, tuple(cuts))
            cutting = made(dims, cuts)
            for land in right:
                with self.subTest(dims=dims, cuts=cuts, land=land):
                    yield dims, cuts, cutting, land, right

    def all_cuttings(self):
        return reckoning.small_cuttings() + reckoning.great_cuttings() + reckoning.full_cuttings()

    def check_walls(self, dims, cuts, cutting, land):
        """Asks, looks at each wall's spot, and tells the numbers."""
        answer = walls(cutting, land)
        self.assertIs(type(answer), list)
        for wall in answer:
            self.assertIs(type(wall), tuple)
            self.assertEqual(len(wall), 2)
            self.assertIs(type(wall[0]), int)
            # The cutting itself tells whether it is a spot, in lowest terms.
            self.assertEqual(cutting.sides(wall[1]), nought(land, wall[0]))
            self.assertEqual(reckoning.sides(cuts, reckoning.as_fractions(wall[1])), nought(land, wall[0]))
        return [k for k, spot in answer]


class Walls(WallCase):
    def test_just_those_that_part_it_from_a_land(self):
        # Two lands with unlike signs at one cut alone have a spot on it straight between them.
        for dims, cuts, cutting, land, right in self.each_land(self.all_cuttings()):
            numbers = [k for k in range(len(cuts)) if other_sign(land, k) in right]
            self.assertEqual(self.check_walls(dims, cuts, cutting, land), numbers)

    def test_just_those_with_a_spot_on_it(self):
        for dims, cuts in reckoning.small_cuttings():
            faces = reckoning.all_faces(cuts, dims)
            for land in faces:
                if 0 not in land:
                    numbers = [k for k in range(len(cuts)) if nought(land, k) in faces]
                    self.assertEqual(self.check_walls(dims, cuts, made(dims, cuts), land), numbers)

    def test_of_no_cuts_none(self):
        for dims in (1, 2, 3):
            self.assertEqual(walls(Cutting(dims, []), ()), [])

    def test_written_out(self):
        self.assertEqual(self.check_walls(2, SQUARE, made(2, SQUARE), IN_SQUARE), [0, 1, 2, 3])
        self.assertEqual(self.check_walls(2, SQUARE, made(2, SQUARE), (1, 1, 1, 1)), [1, 3])
        self.assertEqual(self.check_walls(2, SQUARE, made(2, SQUARE), (-1, -1, 1, -1)), [0, 2, 3])
        # A line that touches the square at a corner alone is no wall of it.
        touched = SQUARE + [(1, 1, 2)]
        self.assertEqual(self.check_walls(2, touched, made(2, touched), IN_SQUARE + (-1,)), [0, 1, 2, 3])
        self.assertEqual(walls(Cutting(1, [(2, 1)]), (1,)), [(0, ((1, 2),))])
        self.assertEqual(walls(Cutting(1, [(2, 1), (1, 5)]), (1, -1)), [(0, ((1, 2),)), (1, ((5, 1),))])
        self.assertEqual(walls(Cutting(1, [(2, 1), (1, 5)]), (1, 1)), [(1, ((5, 1),))])

    def test_side_by_side_and_through_one_spot(self):
        for dims in (1, 2, 3):
            cutting = made(dims, SIDE_BY_SIDE[dims])
            many = [len(walls(cutting, land)) for land in lands(cutting)]
            self.assertEqual(sorted(many), [1, 1] + [2] * (cutting.many() - 1))
        cutting = made(2, THROUGH_ONE_SPOT[2])
        self.assertEqual([len(walls(cutting, land)) for land in lands(cutting)], [2] * 10)


class LandBehind(WallCase):
    def test_each_wall(self):
        for dims, cuts, cutting, land, right in self.each_land(self.all_cuttings()):
            for k in range(len(cuts)):
                behind = other_sign(land, k)
                if behind in right:
                    answer = land_behind(cutting, land, k)
                    self.assertIs(type(answer), tuple)
                    self.assertEqual([type(sign) for sign in answer], [int] * len(cuts))
                    self.assertEqual(answer, behind)
                    self.assertEqual(land_behind(cutting, answer, k), land)
                else:
                    with self.assertRaises(NoNumber):
                        land_behind(cutting, land, k)

    def test_no_number_of_a_wall(self):
        for dims in (1, 2, 3):
            for many in (0, 1, 2, 7):
                cutting = made(dims, CUTS_OF_DIMS[dims][:many])
                land = lands(cutting)[0]
                for thing in [-1, -many, -many - 1, many, many + 1, BIG, -BIG] + things_of_no_number():
                    if thing.__class__ is not int or thing < 0 or thing >= many:
                        with self.assertRaises(NoNumber):
                            land_behind(cutting, land, thing)


class Refused(unittest.TestCase):
    QUESTIONS = [
        walls, lambda cutting, signs: land_behind(cutting, signs, 0),
        lambda cutting, signs: land_behind(cutting, signs, None), lambda cutting, signs: land_behind(cutting, signs, 99),
    ]

    def test_no_signs(self):
        for dims in (1, 2, 3):
            for many in (0, 1, 2, 7):
                cutting = made(dims, CUTS_OF_DIMS[dims][:many])
                for thing in wrong_signs(many):
                    for question in self.QUESTIONS:
                        with self.assertRaises(NoSigns):
                            question(cutting, thing)

    def test_no_land(self):
        for dims, cuts in reckoning.small_cuttings():
            cutting = made(dims, cuts)
            right = right_lands_of(dims, tuple(cuts))
            for signs in all_rows(len(cuts)):
                if signs not in right:
                    for question in self.QUESTIONS:
                        with self.assertRaises(NoLand):
                            question(cutting, signs)


class Kept(unittest.TestCase):
    """[2] and [3]."""

    def test_lists_that_were_told_may_be_changed(self):
        cutting = made(2, SQUARE)
        before = told(cutting)
        untouched = told(cutting)
        for change in (list.clear, list.reverse, lambda row: row.append(None)):
            change(walls(cutting, IN_SQUARE))
            self.assertEqual(told(cutting), before)
        self.assertEqual(untouched, before)
        self.assertEqual(cutting.cuts(), SQUARE)

    def test_asked_again_also_behind_another_cutting(self):
        cuttings = [made(dims, CUTS_OF_DIMS[dims][:5]) for dims in (1, 2, 3)]
        before = [told(cutting) for cutting in cuttings]
        self.assertEqual([told(cutting) for cutting in reversed(cuttings)], before[::-1])
        self.assertEqual([told(made(dims, CUTS_OF_DIMS[dims][:5])) for dims in (1, 2, 3)], before)

    def test_behind_a_refusal(self):
        cutting = made(2, SQUARE)
        before = told(cutting)
        for question in Refused.QUESTIONS:
            for signs in (None, (0, 0, 0, 0), (-1, 1, 1, 1)):
                with self.assertRaises(CutError):
                    question(cutting, signs)
        with self.assertRaises(CutError):
            land_behind(cutting, (1, 1, 1, 1), 0)
        self.assertEqual(told(cutting), before)


class Interface(unittest.TestCase):
    def test_names_and_arguments(self):
        for name, arguments in [("walls", ["signs"]), ("land_behind", ["signs", "k"])]:
            self.assertEqual(list(inspect.signature(getattr(module, name)).parameters), ["cutting"] + arguments)


if __name__ == "__main__":
    unittest.main()
