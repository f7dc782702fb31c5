"""The whole, of what is written so far: [4]."""

import itertools
import unittest

import reckoning
from cutlands.bounded import bounded_lands, reach, shows_bounded, shows_far
from cutlands.counting import how_many_bounded, how_many_lands
from cutlands.lands import land_spots, lands
from cutlands.meets import meet
from cutlands.signs import held, shows_none
from cutlands.tables import drawn, draws, shows_undrawn
from reckoning import BIG, all_rows, made


def some_cuttings():
    return reckoning.small_cuttings() + reckoning.full_cuttings() + reckoning.great_cuttings()


def turned(land, turns):
    return tuple(sign * turn for sign, turn in zip(land, turns))


class Either(unittest.TestCase):
    def test_just_one_of_a_spot_and_a_paper(self):
        for dims, cuts in reckoning.small_cuttings():
            cutting = made(dims, cuts)
            told = {signs: held(cutting, signs) for signs in all_rows(len(cuts))}
            papers = [answer[1] for answer in told.values() if answer[0] == "paper"]
            for signs, answer in told.items():
                if answer[0] == "spot":
                    self.assertEqual(cutting.sides(answer[1]), signs)
                    self.assertFalse(any(shows_none(cutting, signs, paper) for paper in papers))
                else:
                    self.assertTrue(shows_none(cutting, signs, answer[1]))

    def test_the_lands_are_the_rows_without_0_that_are_held(self):
        for dims, cuts in some_cuttings():
            cutting = made(dims, cuts)
            rows = [row for row in itertools.product((-1, 1), repeat=len(cuts)) if held(cutting, row)[0] == "spot"]
            self.assertEqual(lands(cutting), rows)
            self.assertEqual([cutting.sides(spot) for spot in land_spots(cutting)], rows)

    def test_each_land_is_shown_to_be_bounded_or_not(self):
        for dims, cuts in some_cuttings():
            cutting = made(dims, cuts)
            found = []
            for land in lands(cutting):
                answer = reach(cutting, land)
                self.assertIs(shows_bounded(cutting, land, answer[1]), answer[0] == "bounded")
                self.assertIs(shows_far(cutting, land, answer[1]), answer[0] == "far")
                if answer[0] == "bounded":
                    found.append(land)
            self.assertEqual(bounded_lands(cutting), found)

    def test_as_many_by_counting_alone(self):
        for dims, cuts in some_cuttings():
            cutting = made(dims, cuts)
            self.assertEqual(how_many_lands(cutting), len(lands(cutting)))
            self.assertEqual(how_many_bounded(cutting), len(bounded_lands(cutting)))

    def test_each_row_is_drawn_or_shown_to_be_none(self):
        # The spots are such as lie in the lands of a cutting, and one of them twice.
        for dims, cuts in reckoning.small_cuttings() + reckoning.great_cuttings():
            spots = land_spots(made(dims, cuts))[:3]
            spots = spots + spots[:1]
            rows = [row for row in all_rows(len(spots)) if any(row)]
            told = {row: drawn(dims, spots, row) for row in rows}
            weights = [answer[1] for answer in told.values() if answer[0] == "weights"][::9]
            for row, answer in told.items():
                self.assertIs(draws(dims, spots, row, answer[1]), answer[0] == "cut")
                self.assertIs(shows_undrawn(dims, spots, row, answer[1]), answer[0] == "weights")
                if answer[0] == "cut":
                    self.assertFalse(any(shows_undrawn(dims, spots, row, other) for other in weights))

    def test_cuts_meet_just_where_signs_of_0_are_held(self):
        for dims, cuts in reckoning.small_cuttings():
            cutting = made(dims, cuts)
            for signs in itertools.product((0, 1), repeat=len(cuts)):
                some = [k for k, sign in enumerate(signs) if sign == 0]
                alone = made(dims, [cuts[k] for k in some])
                met = meet(cutting, some)[0] == "met"
                self.assertEqual(met, held(alone, (0,) * len(some))[0] == "spot")


class Changed(unittest.TestCase):
    """The lands are the same, but for their order and turns, of a cutting that is the same but for its looks."""

    def check_same(self, dims, cuts, others, change):
        """Each land and bounded land of the cuts, changed, is one of the other cuts, and there are no more."""
        cutting = made(dims, cuts)
        other = made(dims, others)
        for question in (lands, bounded_lands):
            right = sorted(change(land) for land in question(cutting))
            self.assertEqual(question(other), right, (question.__name__, cuts, others))

    def test_cuts_in_another_order(self):
        for dims, cuts in some_cuttings():
            numbers = range(len(cuts))
            for key in (lambda k: -k, lambda k: k % 2, lambda k: 3 * k % 7):
                order = sorted(numbers, key=key)
                self.check_same(dims, cuts, [cuts[k] for k in order], lambda land: tuple(land[k] for k in order))

    def test_cuts_so_often_of_either_sign(self):
        for dims, cuts in some_cuttings():
            for often in ([1, -1] * 4, [-1] * 7, [2, 3, -5, 1, -1, 7, -2], [-BIG, 10 ** 30, -3, 1, 1, -1, BIG]):
                turns = [1 if number > 0 else -1 for number in often]
                others = [tuple(number * part for part in cut) for number, cut in zip(often, cuts)]
                self.check_same(dims, cuts, others, lambda land: turned(land, turns))

    def test_spots_moved_by_whole_steps(self):
        for dims, cuts in some_cuttings():
            for steps in ((1, 0, 0), (-3, 2, 5), (BIG, -BIG, 10 ** 30)):
                others = [
                    cut[:dims] + (cut[dims] + sum(number * step for number, step in zip(cut[:dims], steps)),)
                    for cut in cuts
                ]
                self.check_same(dims, cuts, others, lambda land: land)

    def test_dims_changed_about(self):
        for dims, cuts in some_cuttings():
            for order in itertools.permutations(range(dims)):
                others = [tuple(cut[place] for place in order) + cut[dims:] for cut in cuts]
                self.check_same(dims, cuts, others, lambda land: land)


if __name__ == "__main__":
    unittest.main()
