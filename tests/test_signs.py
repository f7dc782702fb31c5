"""Wanted signs: [20], [21], [22], and [2], [3] of them."""

import inspect
import itertools
import unittest

import reckoning
from anything import things_of_no_number
from cutlands.cuts import Cutting
from cutlands.errors import CutError, NoSigns
from cutlands.lands import lands
from cutlands.signs import held, shows_none
from reckoning import BIG, CUTS_OF_DIMS, all_rows, changed_at_one_place, made, wrong_signs


def is_right_paper(dims, cuts, signs, weights):
    """[21], word by word."""
    for sign, weight in zip(signs, weights):
        if sign != 0 and weight != 0 and (weight > 0) != (sign > 0):
            return False
    come_to = reckoning.taken_often(cuts, weights) if cuts else [0] * (dims + 1)
    if any(come_to[:dims]):
        return False
    some_side = any(sign != 0 and weight != 0 for sign, weight in zip(signs, weights))
    return come_to[dims] > 0 or (come_to[dims] == 0 and some_side)


class SignsCase(unittest.TestCase):
    def check_held(self, dims, cuts, signs):
        """Asks, holds the answer against the test's own reckoning, and tells which of both it is."""
        cutting = made(dims, cuts)
        answer = held(cutting, signs)
        self.assertIs(type(answer), tuple)
        self.assertEqual(len(answer), 2)
        if answer[0] == "spot":
            # The cutting itself tells whether it is a spot, in lowest terms.
            self.assertEqual(cutting.sides(answer[1]), signs)
            self.assertEqual(reckoning.sides(cuts, reckoning.as_fractions(answer[1])), signs)
        else:
            self.assertEqual(answer[0], "paper")
            self.assertIs(type(answer[1]), list)
            self.assertEqual([type(weight) for weight in answer[1]], [int] * len(cuts))
            self.assertTrue(is_right_paper(dims, cuts, signs, answer[1]))
            self.assertIs(shows_none(cutting, signs, answer[1]), True)
        return answer[0]


class Held(SignsCase):
    def check_all_rows(self, dims, cuts):
        faces = reckoning.all_faces(cuts, dims)
        for signs in all_rows(len(cuts)):
            with self.subTest(dims=dims, cuts=cuts, signs=signs):
                self.assertEqual(self.check_held(dims, cuts, signs), "spot" if signs in faces else "paper")

    def test_all_rows_of_small_cuttings(self):
        for dims, cuts in reckoning.small_cuttings():
            self.check_all_rows(dims, cuts)

    def test_all_rows_of_great_numbers(self):
        for dims, cuts in reckoning.great_cuttings():
            self.check_all_rows(dims, cuts[:3])

    def test_rows_of_great_numbers_that_spots_have(self):
        for dims, cuts in reckoning.great_cuttings():
            for signs in reckoning.all_lands(cuts, dims):
                self.assertEqual(self.check_held(dims, cuts, signs), "spot")

    def test_all_rows_of_seven_cuts_of_a_line_and_a_plane(self):
        self.check_all_rows(1, reckoning.LINE_CUTS)
        self.check_all_rows(2, reckoning.PLANE_CUTS)

    def test_all_rows_of_seven_planes(self):
        for cuts in (reckoning.MIXED[3] + [(0, 0, 1, 0), (0, 0, 1, 1)], reckoning.by_chance(12, 3, 6, 1)):
            self.check_all_rows(3, cuts)

    def test_always_a_spot_for_the_sides_of_a_spot(self):
        parts = [(0, 1), (1, 1), (3, 2), (-4, 3), (BIG, BIG - 1)]
        for dims, cuts in reckoning.full_cuttings():
            for spot in itertools.product(parts, repeat=dims):
                self.assertEqual(self.check_held(dims, cuts, made(dims, cuts).sides(spot)), "spot")

    def test_between_two_that_are_very_near(self):
        cuts = [(BIG, BIG - 1), (BIG - 1, BIG - 2)]
        self.assertEqual(self.check_held(1, cuts, (-1, 1)), "spot")
        self.assertEqual(self.check_held(1, cuts, (1, -1)), "paper")

    def test_spots_are_short_where_lands_are_wide(self):
        # Whatever figures the cuts have, spots of few figures lie in their lands.
        for dims in (1, 2, 3):
            cutting = made(dims, reckoning.by_chance(3, dims, 7, BIG))
            for signs in lands(cutting):
                for part in held(cutting, signs)[1]:
                    self.assertLess(abs(part[0]) + part[1], 10 ** 10)

    def test_of_no_cuts_a_spot(self):
        for dims in (1, 2, 3):
            self.assertEqual(self.check_held(dims, [], ()), "spot")

    def test_written_out(self):
        cutting = Cutting(1, [(1, 0), (1, 1)])
        weights = held(cutting, (-1, 1))[1]
        self.assertEqual(weights[0], -weights[1])
        self.assertGreater(weights[1], 0)
        self.assertEqual(held(Cutting(1, [(2, 1), (3, 5)]), (0, -1)), ("spot", ((1, 2),)))

    def test_cuts_that_want_0_and_are_apart(self):
        for signs in ((0, 0, 0), (0, 0, 1), (0, 0, -1)):
            for cuts in ([(1, 2, 3), (1, 2, 4), (5, 1, 0)], [(1, 2, 4), (1, 2, 3), (5, 1, 0)]):
                self.assertEqual(self.check_held(2, cuts, signs), "paper")

    def test_a_sum_of_0_with_a_side_is_a_paper(self):
        # Three lines through one spot: on two of them one is on the third.
        cuts = [(1, 0, 1), (0, 1, 2), (1, 1, 3)]
        self.assertEqual(self.check_held(2, cuts, (0, 0, 0)), "spot")
        for signs in ((0, 0, 1), (0, 0, -1), (0, 1, 0), (1, 0, 0), (1, 1, -1), (-1, -1, 1), (1, 1, 0)):
            self.assertEqual(self.check_held(2, cuts, signs), "paper")


class ShowsNone(unittest.TestCase):
    def check(self, dims, cuts, signs, weights):
        right = is_right_paper(dims, cuts, signs, weights)
        self.assertIs(shows_none(made(dims, cuts), signs, weights), right, (cuts, signs, weights))
        return right

    def test_all_small_weights(self):
        found = 0
        for dims, cuts in [
            (1, [(1, 0), (2, 3)]), (1, [(1, 0), (-1, 1), (1, 2)]), (2, [(1, 0, 1), (0, 1, 2), (1, 1, 3)]),
            (2, [(1, 0, 0), (1, 0, 1), (0, 1, 0)]), (3, [(1, 0, 0, 0), (-1, 0, 0, 1), (2, 0, 0, 1)]),
            (2, [(1, 0, 0), (0, 1, 0), (-1, -1, 1)]), (2, [(1, 0, 0), (0, 1, 0), (-1, -1, -1)]),
        ]:
            for signs in all_rows(len(cuts)):
                for weights in itertools.product(range(-2, 3), repeat=len(cuts)):
                    found += self.check(dims, cuts, signs, list(weights))
        self.assertGreater(found, 100)

    def test_papers_told_and_what_becomes_of_them(self):
        for dims, cuts in reckoning.small_cuttings() + reckoning.great_cuttings():
            cutting = made(dims, cuts)
            for signs in all_rows(len(cuts)):
                answer = held(cutting, signs)
                if answer[0] == "paper":
                    self.check_changed(dims, cuts, signs, answer[1])

    def check_changed(self, dims, cuts, signs, weights):
        self.assertTrue(self.check(dims, cuts, signs, weights))
        self.assertTrue(self.check(dims, cuts, signs, [5 * weight for weight in weights]))
        self.check(dims, cuts, signs, [-weight for weight in weights])
        self.assertFalse(self.check(dims, cuts, signs, [0] * len(weights)))
        for changed in changed_at_one_place(weights):
            # One cut so often is not 0 at all places, so one place alone is never free.
            self.assertFalse(self.check(dims, cuts, signs, changed))
        for turned in changed_at_one_place(signs, (2, -2, 1, -1)):
            if all(-1 <= sign <= 1 for sign in turned):
                self.check(dims, cuts, turned, weights)

    def test_a_paper_of_noughts_may_have_either_sign_but_not_the_wrong_sum(self):
        cuts = [(1, 0), (1, 1)]
        self.assertTrue(self.check(1, cuts, (0, 0), [-1, 1]))
        self.assertFalse(self.check(1, cuts, (0, 0), [1, -1]))
        self.assertTrue(self.check(2, [(1, 0, 1), (0, 1, 2), (1, 1, 3)], (1, 1, -1), [1, 1, -1]))
        # A sum of 0 with weights at noughts alone shows nothing.
        self.assertFalse(self.check(2, [(1, 0, 1), (0, 1, 2), (1, 1, 3)], (0, 0, 0), [1, 1, -1]))

    def test_anything(self):
        for dims in (1, 2, 3):
            for many in (0, 1, 2, 7):
                cutting = made(dims, CUTS_OF_DIMS[dims][:many])
                things = [0, 1, (), (0,) * many, [0] * (many + 1), [1] * (many + 8)] + things_of_no_number()
                for thing in things:
                    self.assertIs(shows_none(cutting, (0,) * many, thing), False)
                    self.assertIs(shows_none(cutting, (0,) * many, [thing] * many), False)

    def test_right_weights_of_another_form(self):
        cutting = Cutting(1, [(1, 0), (1, 1)])
        self.assertIs(shows_none(cutting, (-1, 1), [-1, 1]), True)
        for thing in ((-1, 1), [-1, True], [-1.0, 1], [-1, 1, 0], [-1], [-1, "1"], {0: -1, 1: 1}, [[-1], [1]]):
            self.assertIs(shows_none(cutting, (-1, 1), thing), False)


class NoSignsRefused(unittest.TestCase):
    def test_no_signs(self):
        for dims in (1, 2, 3):
            for many in (0, 1, 2, 7):
                cutting = made(dims, CUTS_OF_DIMS[dims][:many])
                for number, thing in enumerate(wrong_signs(many)):
                    with self.subTest(dims=dims, many=many, number=number):
                        with self.assertRaises(NoSigns):
                            held(cutting, thing)
                        for weights in ([0] * many, None):
                            with self.assertRaises(NoSigns):
                                shows_none(cutting, thing, weights)


class Kept(unittest.TestCase):
    """[2] and [3]."""

    def test_a_list_that_was_told_may_be_changed(self):
        cutting = Cutting(2, [(1, 0, 0), (1, 0, 1), (0, 1, 0)])
        for signs in ((-1, 1, 1), (0, 0, 0), (0, 1, 1)):
            right = list(held(cutting, signs)[1])
            untouched = held(cutting, signs)[1]
            changed = held(cutting, signs)[1]
            changed.reverse()
            changed.append(None)
            self.assertEqual(untouched, right)
            self.assertEqual(held(cutting, signs), ("paper", right))

    def test_a_list_handed_in_is_as_it_was(self):
        cutting = Cutting(1, [(1, 0), (1, 1)])
        for weights in ([-1, 1], [1, 2], [None], [[], []]):
            before = repr(weights)
            shows_none(cutting, (-1, 1), weights)
            self.assertEqual(repr(weights), before)

    def test_asked_again_also_behind_another_cutting_and_a_refusal(self):
        for dims in (1, 2, 3):
            cuts = CUTS_OF_DIMS[dims][:4]
            cutting = made(dims, cuts)
            before = [held(cutting, signs) for signs in all_rows(4)]
            for other in (1, 2, 3):
                held(made(other, CUTS_OF_DIMS[other]), (1, -1, 0, 0, 1, -1, 1))
            for question in (lambda: held(cutting, None), lambda: shows_none(cutting, (1,), [])):
                with self.assertRaises(CutError):
                    question()
            self.assertEqual([held(cutting, signs) for signs in all_rows(4)], before)
            self.assertEqual([held(made(dims, cuts), signs) for signs in all_rows(4)], before)
            self.assertEqual(cutting.cuts(), cuts)


class Interface(unittest.TestCase):
    def test_names_and_arguments(self):
        self.assertEqual(list(inspect.signature(held).parameters), ["cutting", "signs"])
        self.assertEqual(list(inspect.signature(shows_none).parameters), ["cutting", "signs", "thing"])


if __name__ == "__main__":
    unittest.main()
