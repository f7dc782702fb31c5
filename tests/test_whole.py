"""The whole: [4]; and [1], that all it speaks of is there."""

import importlib
import itertools
import unittest

import reckoning
from cutlands.bounded import bounded_lands, reach, shows_bounded, shows_far
from cutlands.counting import how_many_bounded, how_many_lands
from cutlands.lands import land_spots, lands
from cutlands.meets import meet
from cutlands.signs import held, shows_none
from cutlands.tables import drawn, draws, shows_undrawn
from cutlands.walks import is_walk, parting, steps_off, walk
from cutlands.walls import land_behind, walls
from reckoning import BIG, all_rows, made


def some_cuttings():
    return reckoning.small_cuttings() + reckoning.full_cuttings() + reckoning.great_cuttings()


def turned(land, turns):
    return tuple(sign * turn for sign, turn in zip(land, turns))


class Either(unittest.TestCase):
    def test_just_one_of_a_spot_and_a_paper(self):
        for dims, cuts in reckoning.small_cuttings():
            cutting = made(dims, cuts)
            told = {signs: held(cutting, signs) for signs in all_rows(len(cuts))}
            papers = [answer[1] for answer in told.values() if answer[0] == "paper"]
            for signs, answer in told.items():
                if answer[0] == "spot":
                    self.assertEqual(cutting.sides(answer[1]), signs)
                    self.assertFalse(any(shows_none(cutting, signs, paper) for paper in papers))
                else:
                    self.assertTrue(shows_none(cutting, signs, answer[1]))

    def test_the_lands_are_the_rows_without_0_that_are_held(self):
        for dims, cuts in some_cuttings():
            cutting = made(dims, cuts)
            rows = [row for row in itertools.product((-1, 1), repeat=len(cuts)) if held(cutting, row)[0] == "spot"]
            self.assertEqual(lands(cutting), rows)
            self.assertEqual([cutting.sides(spot) for spot in land_spots(cutting)], rows)

    def test_each_land_is_shown_to_be_bounded_or_not(self):
        for dims, cuts in some_cuttings():
            cutting = made(dims, cuts)
            found = []
            for land in lands(cutting):
                answer = reach(cutting, land)
                self.assertIs(shows_bounded(cutting, land, answer[1]), answer[0] == "bounded")
                self.assertIs(shows_far(cutting, land, answer[1]), answer[0] == "far")
                if answer[0] == "bounded":
                    found.append(land)
            self.assertEqual(bounded_lands(cutting), found)

    def test_as_many_by_counting_alone(self):
        for dims, cuts in some_cuttings():
            cutting = made(dims, cuts)
            self.assertEqual(how_many_lands(cutting), len(lands(cutting)))
            self.assertEqual(how_many_bounded(cutting), len(bounded_lands(cutting)))

    def test_each_row_is_drawn_or_shown_to_be_none(self):
        # The spots are such as lie in the lands of a cutting, and one of them twice.
        for dims, cuts in reckoning.small_cuttings() + reckoning.great_cuttings():
            spots = land_spots(made(dims, cuts))[:3]
            spots = spots + spots[:1]
            rows = [row for row in all_rows(len(spots)) if any(row)]
            told = {row: drawn(dims, spots, row) for row in rows}
            weights = [answer[1] for answer in told.values() if answer[0] == "weights"][::9]
            for row, answer in told.items():
                self.assertIs(draws(dims, spots, row, answer[1]), answer[0] == "cut")
                self.assertIs(shows_undrawn(dims, spots, row, answer[1]), answer[0] == "weights")
                if answer[0] == "cut":
                    self.assertFalse(any(shows_undrawn(dims, spots, row, other) for other in weights))

    def test_as_many_steps_apart_as_cuts_part_them(self):
        # The least number of steps is found by going through walls alone, from all lands at once that are reached.
        for dims, cuts in some_cuttings():
            cutting = made(dims, cuts)
            found = lands(cutting)
            behind = {land: [land_behind(cutting, land, k) for k, spot in walls(cutting, land)] for land in found}
            for one in found[::5]:
                apart = self.steps_apart(behind, one)
                self.assertEqual(sorted(apart), found)
                for other in found[::3]:
                    self.assertEqual(apart[other], len(parting(cutting, one, other)))
                    steps = walk(cutting, one, other)
                    self.assertEqual(len(steps), apart[other])
                    self.assertTrue(is_walk(cutting, one, other, steps))
                counts = list(apart.values())
                self.assertEqual(steps_off(cutting, one), [counts.count(many) for many in range(max(counts) + 1)])

    def steps_apart(self, behind, one):
        """How many steps each land is off, where each land has these lands behind its walls."""
        apart = {one: 0}
        reached = [one]
        while reached:
            further = []
            for here in reached:
                for land in behind[here]:
                    if land not in apart:
                        apart[land] = apart[here] + 1
                        further.append(land)
            reached = further
        return apart

    def test_cuts_meet_just_where_signs_of_0_are_held(self):
        for dims, cuts in reckoning.small_cuttings():
            cutting = made(dims, cuts)
            for signs in itertools.product((0, 1), repeat=len(cuts)):
                some = [k for k, sign in enumerate(signs) if sign == 0]
                alone = made(dims, [cuts[k] for k in some])
                met = meet(cutting, some)[0] == "met"
                self.assertEqual(met, held(alone, (0,) * len(some))[0] == "spot")


class There(unittest.TestCase):
    """[1] and the interface: each name in the module that the document names."""

    NAMES = {
        "errors": "CutError NoCutting NoTable NoFraction NoSpot NoSigns NoLand NoFace NoNumber NoText NoDeed",
        "fractions": "made plus minus times over less floor_of ceiling_of",
        "cuts": "Cutting",
        "meets": "meet",
        "signs": "held shows_none",
        "lands": "lands land_at number_of land_of land_spots split gone_through",
        "bounded": "reach shows_bounded shows_far bounded_lands box",
        "flats": "flats flat_of flat_numbers",
        "counting": "dim_sums how_many_lands how_many_bounded trace",
        "tables": "drawn draws shows_undrawn table_drawn rows_drawn row_not_drawn",
        "walls": "walls land_behind",
        "walks": "parting walk is_walk how_many_walks steps_off poles",
        "faces": "faces face_dims face_counts beside at_edge between",
        "texts": "shown_fraction shown_spot shown_cut shown_cutting shown_signs "
                 "read_fraction read_spot read_cut read_cutting read_signs",
        "desk": "Desk",
    }

    def test_each_name(self):
        for name, names in self.NAMES.items():
            module = importlib.import_module("cutlands." + name)
            for thing in names.split():
                self.assertTrue(callable(getattr(module, thing)), (name, thing))


class Changed(unittest.TestCase):
    """The lands are the same, but for their order and turns, of a cutting that is the same but for its looks."""

    def check_same(self, dims, cuts, others, change):
        """Each land and bounded land of the cuts, changed, is one of the other cuts, and there are no more."""
        cutting = made(dims, cuts)
        other = made(dims, others)
        for question in (lands, bounded_lands):
            right = sorted(change(land) for land in question(cutting))
            self.assertEqual(question(other), right, (question.__name__, cuts, others))

    def test_cuts_in_another_order(self):
        for dims, cuts in some_cuttings():
            numbers = range(len(cuts))
            for key in (lambda k: -k, lambda k: k % 2, lambda k: 3 * k % 7):
                order = sorted(numbers, key=key)
                self.check_same(dims, cuts, [cuts[k] for k in order], lambda land: tuple(land[k] for k in order))

    def test_cuts_so_often_of_either_sign(self):
        for dims, cuts in some_cuttings():
            for often in ([1, -1] * 4, [-1] * 7, [2, 3, -5, 1, -1, 7, -2], [-BIG, 10 ** 30, -3, 1, 1, -1, BIG]):
                turns = [1 if number > 0 else -1 for number in often]
                others = [tuple(number * part for part in cut) for number, cut in zip(often, cuts)]
                self.check_same(dims, cuts, others, lambda land: turned(land, turns))

    def test_spots_moved_by_whole_steps(self):
        for dims, cuts in some_cuttings():
            for steps in ((1, 0, 0), (-3, 2, 5), (BIG, -BIG, 10 ** 30)):
                others = [
                    cut[:dims] + (cut[dims] + sum(number * step for number, step in zip(cut[:dims], steps)),)
                    for cut in cuts
                ]
                self.check_same(dims, cuts, others, lambda land: land)

    def test_dims_changed_about(self):
        for dims, cuts in some_cuttings():
            for order in itertools.permutations(range(dims)):
                others = [tuple(cut[place] for place in order) + cut[dims:] for cut in cuts]
                self.check_same(dims, cuts, others, lambda land: land)


if __name__ == "__main__":
    unittest.main()
