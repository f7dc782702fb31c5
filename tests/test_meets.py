"""Where cuts meet: [13], and [2], [3] of it."""

import inspect
import itertools
import unittest

import reckoning
from anything import things_of_no_number
from cutlands.cuts import Cutting
from cutlands.errors import CutError, NoNumber
from cutlands.meets import meet
from reckoning import BIG, CUTS_OF_DIMS, SIDE_BY_SIDE, THROUGH_ONE_SPOT, made


def orders(many, most):
    """All lists of unlike numbers of so many cuts, in all orders, of no more than most."""
    for length in range(min(many, most) + 1):
        for some in itertools.permutations(range(many), length):
            yield list(some)


class MeetCase(unittest.TestCase):
    def check_meet(self, dims, cuts, some):
        """Asks, holds the answer against the test's own reckoning, and tells it."""
        answer = meet(made(dims, cuts), some)
        self.assertIs(type(answer), tuple)
        chosen = [cuts[k] for k in some]
        if reckoning.rank(chosen) == reckoning.rank([cut[:dims] for cut in chosen]):
            self.check_met(dims, chosen, answer)
        else:
            self.check_apart(dims, chosen, answer)
        return answer

    def check_met(self, dims, chosen, answer):
        self.assertEqual(len(answer), 3)
        self.assertEqual(answer[0], "met")
        # The cutting itself tells whether it is a spot, in lowest terms.
        self.assertEqual(Cutting(dims, chosen).sides(answer[1]), (0,) * len(chosen))
        self.assertEqual(reckoning.sides(chosen, reckoning.as_fractions(answer[1])), (0,) * len(chosen))
        ways = answer[2]
        self.assertIs(type(ways), list)
        for way in ways:
            self.assertIs(type(way), tuple)
            self.assertEqual([type(number) for number in way], [int] * dims)
            for cut in chosen:
                self.assertEqual(sum(number * step for number, step in zip(cut, way)), 0)
        self.assertEqual(len(ways), dims - reckoning.rank([cut[:dims] for cut in chosen]))
        self.assertEqual(reckoning.rank(ways), len(ways))

    def check_apart(self, dims, chosen, answer):
        self.assertEqual(len(answer), 2)
        self.assertEqual(answer[0], "apart")
        weights = answer[1]
        self.assertIs(type(weights), list)
        self.assertEqual([type(weight) for weight in weights], [int] * len(chosen))
        come_to = reckoning.taken_often(chosen, weights)
        self.assertEqual(come_to[:dims], [0] * dims)
        self.assertNotEqual(come_to[dims], 0)


class Meet(MeetCase):
    def test_all_orders_of_small_cuttings(self):
        for dims, cuts in reckoning.small_cuttings():
            for some in orders(len(cuts), 4):
                with self.subTest(dims=dims, cuts=cuts, some=some):
                    self.check_meet(dims, cuts, some)

    def test_great_numbers(self):
        for dims, cuts in reckoning.great_cuttings():
            for some in orders(len(cuts), 4):
                with self.subTest(dims=dims, cuts=cuts, some=some):
                    self.check_meet(dims, cuts, some)

    def test_all_choices_of_full_cuttings(self):
        for dims, cuts in reckoning.full_cuttings():
            for length in range(len(cuts) + 1):
                for some in itertools.combinations(range(len(cuts)), length):
                    for row in (list(some), list(reversed(some))):
                        with self.subTest(dims=dims, cuts=cuts, some=row):
                            self.check_meet(dims, cuts, row)

    def test_of_no_cuts_all_spots(self):
        for dims in (1, 2, 3):
            for cuts in ([], CUTS_OF_DIMS[dims]):
                self.assertEqual(len(self.check_meet(dims, cuts, [])[2]), dims)

    def test_written_out(self):
        self.assertEqual(meet(Cutting(2, [(1, 0, 3), (2, -1, 3)]), [0, 1]), ("met", ((3, 1), (3, 1)), []))
        self.assertEqual(meet(Cutting(1, [(-4, 6)]), [0]), ("met", ((-3, 2),), []))
        three = Cutting(3, [(1, 1, 0, 1), (0, 1, 1, 1), (1, 0, 1, 1), (1, 1, 1, 0)])
        self.assertEqual(meet(three, [2, 0, 1]), ("met", ((1, 2), (1, 2), (1, 2)), []))
        self.assertEqual(meet(three, [3, 2, 0, 1])[0], "apart")

    def test_a_cut_that_two_others_tell_costs_no_way(self):
        cuts = [(1, 0, 0, 1), (0, 1, 0, 2), (1, 1, 0, 3)]
        self.assertEqual(len(self.check_meet(3, cuts, [0, 1, 2])[2]), 1)
        self.assertEqual(len(self.check_meet(3, cuts, [2, 1, 0])[2]), 1)

    def test_more_cuts_than_dims_through_one_spot(self):
        for dims in (2, 3):
            cuts = THROUGH_ONE_SPOT[dims]
            answer = self.check_meet(dims, cuts, list(range(len(cuts))))
            self.assertEqual((answer[0], answer[2]), ("met", []))

    def test_side_by_side_ones_are_apart(self):
        for dims in (1, 2, 3):
            for some in orders(len(SIDE_BY_SIDE[dims]), 4):
                if len(some) > 1:
                    self.assertEqual(self.check_meet(dims, SIDE_BY_SIDE[dims], some)[0], "apart")

    def test_weights_stand_in_the_lists_order(self):
        cuts = [(1, 0, 0), (0, 1, 0), (1, 1, 5), (7, 3, 1)]
        for some in itertools.permutations((0, 1, 2)):
            weights = self.check_meet(2, cuts, list(some))[1]
            by_cut = dict(zip(some, weights))
            self.assertEqual(by_cut[0], by_cut[1])
            self.assertEqual(by_cut[0], -by_cut[2])

    def test_in_any_order_alike(self):
        for dims, cuts in reckoning.small_cuttings():
            cutting = made(dims, cuts)
            told = {}
            for some in orders(len(cuts), 4):
                answer = meet(cutting, some)
                kind = (answer[0], len(answer[2]) if answer[0] == "met" else None)
                self.assertEqual(told.setdefault(frozenset(some), kind), kind)


class NoNumbers(unittest.TestCase):
    def refused(self, cutting, thing):
        with self.assertRaises(NoNumber):
            meet(cutting, thing)

    def test_no_list(self):
        for dims in (1, 2, 3):
            for cuts in ([], CUTS_OF_DIMS[dims]):
                for thing in [0, 1, -1, (), (0,), (0, 1), "0", {0: 0}, range(1), iter([0])] + things_of_no_number():
                    if not isinstance(thing, list):
                        self.refused(made(dims, cuts), thing)

    def test_a_thing_that_is_no_number_of_a_cut(self):
        for dims in (1, 2, 3):
            for many in (0, 1, 2, 7):
                cutting = made(dims, CUTS_OF_DIMS[dims][:many])
                for thing in [-1, -many - 1, many, many + 1, BIG, -BIG] + things_of_no_number():
                    self.refused(cutting, [thing])
                    if many > 1:
                        self.refused(cutting, [0, thing])
                        self.refused(cutting, [thing, 1])
                        self.refused(cutting, [0, thing, 1])
                        self.refused(cutting, [thing, thing])

    def test_a_number_twice(self):
        for dims in (1, 2, 3):
            cutting = made(dims, CUTS_OF_DIMS[dims])
            for some in ([0, 0], [6, 6], [0, 1, 0], [1, 0, 0], [3, 2, 1, 3], list(range(7)) + [6]):
                self.refused(cutting, some)


class Kept(unittest.TestCase):
    """[2] and [3]."""

    def test_a_list_handed_in_is_as_it_was(self):
        cutting = made(2, reckoning.PLANE_CUTS)
        for some in ([], [3, 1], [2, 3], [6, 5, 4, 3, 2, 1, 0]):
            before = list(some)
            meet(cutting, some)
            self.assertEqual(some, before)
        wrong = [1, 1]
        with self.assertRaises(NoNumber):
            meet(cutting, wrong)
        self.assertEqual(wrong, [1, 1])

    def test_lists_that_were_told_may_be_changed(self):
        cutting = made(3, reckoning.SPACE_CUTS)
        for some in ([], [0], [2, 5], [0, 1]):
            right = repr(meet(cutting, some))
            untouched = meet(cutting, some)
            meet(cutting, some)[-1].clear()
            meet(cutting, some)[-1].append(None)
            self.assertEqual(repr(untouched), right)
            self.assertEqual(repr(meet(cutting, some)), right)
            self.assertEqual(cutting.cuts(), reckoning.SPACE_CUTS)

    def test_asked_again_also_behind_another_cutting(self):
        cutting = made(3, reckoning.SPACE_CUTS)
        before = [meet(cutting, some) for some in orders(5, 3)]
        for dims in (1, 2, 3):
            meet(made(dims, CUTS_OF_DIMS[dims]), [4, 1, 0])
        for thing in (None, [7], [True], [2, 2]):
            with self.assertRaises(CutError):
                meet(cutting, thing)
        self.assertEqual([meet(cutting, some) for some in orders(5, 3)], before)
        self.assertEqual([meet(made(3, reckoning.SPACE_CUTS), some) for some in orders(5, 3)], before)


class Interface(unittest.TestCase):
    def test_names_and_arguments(self):
        self.assertEqual(list(inspect.signature(meet).parameters), ["cutting", "some"])


if __name__ == "__main__":
    unittest.main()
