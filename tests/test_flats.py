"""Flats and their numbers: [50], [51], and [2], [3] of them."""

import functools
import inspect
import itertools
import unittest

import reckoning
from anything import things_of_no_number
from cutlands import flats as module
from cutlands.cuts import Cutting
from cutlands.errors import CutError, NoNumber
from cutlands.flats import flat_numbers, flat_of, flats
from reckoning import BIG, CUTS_OF_DIMS, SIDE_BY_SIDE, THROUGH_ONE_SPOT, THROUGH_WHAT_TWO_HAVE, made


@functools.cache
def right_flats_of(dims, cuts):
    return reckoning.all_flats(list(cuts), dims)


def right_flats(dims, cuts):
    """All flats with their numbers, in order."""
    found = right_flats_of(dims, tuple(cuts))
    return sorted(found.items(), key=lambda item: (-item[0][0], item[0][1]))


def all_cuttings():
    return reckoning.small_cuttings() + reckoning.great_cuttings() + reckoning.full_cuttings()


def told(cutting):
    """All that is told of a cutting's flats, to be held against what is told later."""
    each = [flat_of(cutting, list(some)) for some in reckoning.choices(cutting.many())]
    return (flats(cutting), flat_numbers(cutting), each)


class FlatCase(unittest.TestCase):
    def each_cutting(self):
        for dims, cuts in all_cuttings():
            with self.subTest(dims=dims, cuts=cuts):
                yield dims, cuts, made(dims, cuts)

    def check_kinds(self, flat):
        self.assertIs(type(flat), tuple)
        self.assertEqual(len(flat), 2)
        self.assertIs(type(flat[0]), int)
        self.assertIs(type(flat[1]), tuple)
        self.assertEqual([type(k) for k in flat[1]], [int] * len(flat[1]))


class Flats(FlatCase):
    def test_each_once_and_in_order(self):
        for dims, cuts, cutting in self.each_cutting():
            answer = flats(cutting)
            self.assertIs(type(answer), list)
            for flat in answer:
                self.check_kinds(flat)
            self.assertEqual(answer, [flat for flat, number in right_flats(dims, cuts)])

    def test_of_no_cuts_the_whole_space_alone(self):
        for dims in (1, 2, 3):
            self.assertEqual(flats(Cutting(dims, [])), [(dims, ())])
            self.assertEqual(flat_numbers(Cutting(dims, [])), [1])

    def test_written_out(self):
        # Two that go side by side, and one across both.
        ladder = Cutting(2, [(1, 0, 0), (0, 1, 5), (1, 0, 1)])
        self.assertEqual(flats(ladder), [(2, ()), (1, (0,)), (1, (1,)), (1, (2,)), (0, (0, 1)), (0, (1, 2))])
        self.assertEqual(flats(Cutting(1, [(2, 1), (-1, 0)])), [(1, ()), (0, (0,)), (0, (1,))])
        three = Cutting(2, [(1, 0, 1), (0, 1, 2), (1, 1, 3)])
        self.assertEqual(flats(three), [(2, ()), (1, (0,)), (1, (1,)), (1, (2,)), (0, (0, 1, 2))])

    def test_three_planes_through_one_line(self):
        cutting = Cutting(3, [(1, 0, 0, 1), (0, 1, 0, 2), (0, 0, 1, 0), (1, 1, 0, 3)])
        self.assertEqual(flats(cutting), [
            (3, ()), (2, (0,)), (2, (1,)), (2, (2,)), (2, (3,)),
            (1, (0, 1, 3)), (1, (0, 2)), (1, (1, 2)), (1, (2, 3)), (0, (0, 1, 2, 3)),
        ])

    def test_side_by_side_ones_have_nothing_in_common(self):
        for dims in (1, 2, 3):
            many = len(SIDE_BY_SIDE[dims])
            right = [(dims, ())] + [(dims - 1, (k,)) for k in range(many)]
            self.assertEqual(flats(made(dims, SIDE_BY_SIDE[dims])), right)

    def test_a_tube_has_no_spot(self):
        # Three planes, each two of which have a line in common, and these lines go side by side.
        cutting = Cutting(3, [(1, 0, 0, 0), (0, 1, 0, 0), (1, 1, 0, 1)])
        self.assertEqual(flats(cutting)[4:], [(1, (0, 1)), (1, (0, 2)), (1, (1, 2))])
        self.assertIsNone(flat_of(cutting, [0, 1, 2]))


class FlatOf(FlatCase):
    def test_all_choices_in_several_orders(self):
        for dims, cuts, cutting in self.each_cutting():
            for some in reckoning.choices(len(cuts)):
                right = reckoning.flat_on(cuts, dims, some)
                for order in (list(some), list(reversed(some)), sorted(some, key=lambda k: 3 * k % 7)):
                    answer = flat_of(cutting, order)
                    self.assertEqual(answer, right, order)
                    if answer is not None:
                        self.check_kinds(answer)

    def test_all_orders(self):
        for dims in (1, 2, 3):
            for kind in (CUTS_OF_DIMS, SIDE_BY_SIDE, THROUGH_ONE_SPOT, THROUGH_WHAT_TWO_HAVE):
                cuts = kind.get(dims, [])[:4]
                for some in reckoning.choices(len(cuts)):
                    right = reckoning.flat_on(cuts, dims, some)
                    for order in itertools.permutations(some):
                        self.assertEqual(flat_of(made(dims, cuts), list(order)), right)

    def test_cuts_that_were_not_asked_stand_in_it(self):
        for dims in (2, 3):
            cutting = made(dims, THROUGH_WHAT_TWO_HAVE[dims])
            for pair in itertools.permutations(range(4), 2):
                self.assertEqual(flat_of(cutting, list(pair)), (dims - 2, (0, 1, 2, 3)))

    def test_of_no_cuts_the_whole_space(self):
        for dims in (1, 2, 3):
            for many in range(8):
                self.assertEqual(flat_of(made(dims, CUTS_OF_DIMS[dims][:many]), []), (dims, ()))

    def test_all_flats_are_told_one_by_one(self):
        for dims, cuts, cutting in self.each_cutting():
            for flat in flats(cutting):
                self.assertEqual(flat_of(cutting, list(flat[1])), flat)


class Numbers(FlatCase):
    def test_numbers_by_choices(self):
        for dims, cuts, cutting in self.each_cutting():
            answer = flat_numbers(cutting)
            self.assertIs(type(answer), list)
            self.assertEqual([type(number) for number in answer], [int] * len(answer))
            self.assertEqual(answer, [number for flat, number in right_flats(dims, cuts)])

    def test_word_by_word(self):
        for dims, cuts, cutting in self.each_cutting():
            found = list(zip(flats(cutting), flat_numbers(cutting), strict=True))
            self.assertEqual(found[0], ((dims, ()), 1))
            for flat, number in found[1:]:
                around = [other_number for other, other_number in found if set(other[1]) <= set(flat[1])]
                self.assertEqual(sum(around), 0)

    def test_signs(self):
        for dims, cuts, cutting in self.each_cutting():
            for flat, number in zip(flats(cutting), flat_numbers(cutting)):
                self.assertGreater(number if (dims - flat[0]) % 2 == 0 else -number, 0)

    def test_written_out(self):
        three = Cutting(2, [(1, 0, 1), (0, 1, 2), (1, 1, 3)])
        self.assertEqual(flat_numbers(three), [1, -1, -1, -1, 2])
        pencil = Cutting(3, [(1, 0, 0, 1), (0, 1, 0, 2), (0, 0, 1, 0), (1, 1, 0, 3)])
        self.assertEqual(flat_numbers(pencil), [1, -1, -1, -1, -1, 2, 1, 1, 1, -2])


class NoNumbers(unittest.TestCase):
    def refused(self, cutting, thing):
        with self.assertRaises(NoNumber):
            flat_of(cutting, thing)

    def test_no_list(self):
        for dims in (1, 2, 3):
            for cuts in ([], CUTS_OF_DIMS[dims]):
                for thing in [0, 1, -1, (), (0,), (0, 1), "0", {0: 0}, range(1), iter([0])] + things_of_no_number():
                    if not isinstance(thing, list):
                        self.refused(made(dims, cuts), thing)

    def test_a_thing_that_is_no_number_of_a_cut(self):
        for dims in (1, 2, 3):
            for many in (0, 1, 2, 7):
                cutting = made(dims, CUTS_OF_DIMS[dims][:many])
                for thing in [-1, -many - 1, many, many + 1, BIG, -BIG] + things_of_no_number():
                    self.refused(cutting, [thing])
                    if many > 1:
                        self.refused(cutting, [0, thing])
                        self.refused(cutting, [thing, 1])
                        self.refused(cutting, [0, thing, 1])
                        self.refused(cutting, [thing, thing])

    def test_a_number_twice(self):
        for dims in (1, 2, 3):
            cutting = made(dims, CUTS_OF_DIMS[dims])
            for some in ([0, 0], [6, 6], [0, 1, 0], [1, 0, 0], [3, 2, 1, 3], list(range(7)) + [6]):
                self.refused(cutting, some)


class Kept(unittest.TestCase):
    """[2] and [3]."""

    def test_a_list_handed_in_is_as_it_was(self):
        cutting = made(2, reckoning.PLANE_CUTS)
        for some in ([], [3, 1], [2, 3], [6, 5, 4, 3, 2, 1, 0]):
            before = list(some)
            flat_of(cutting, some)
            self.assertEqual(some, before)
        wrong = [1, 1]
        with self.assertRaises(NoNumber):
            flat_of(cutting, wrong)
        self.assertEqual(wrong, [1, 1])

    def test_a_list_handed_in_may_be_changed_later(self):
        cutting = made(3, reckoning.SPACE_CUTS)
        some = [1, 0]
        answer = flat_of(cutting, some)
        some.clear()
        self.assertEqual(answer, (1, (0, 1)))

    def test_lists_that_were_told_may_be_changed(self):
        cutting = made(3, reckoning.SPACE_CUTS)
        before = told(cutting)
        untouched = told(cutting)
        for question in (flats, flat_numbers):
            for change in (list.clear, list.reverse, lambda row: row.append(None)):
                change(question(cutting))
                self.assertEqual(told(cutting), before)
        self.assertEqual(untouched, before)
        self.assertEqual(cutting.cuts(), reckoning.SPACE_CUTS)

    def test_asked_again_also_behind_another_cutting_and_a_refusal(self):
        cuttings = [made(dims, CUTS_OF_DIMS[dims][:5]) for dims in (1, 2, 3)]
        before = [told(cutting) for cutting in cuttings]
        for cutting in cuttings:
            for thing in (None, [7], [True], [2, 2]):
                with self.assertRaises(CutError):
                    flat_of(cutting, thing)
        self.assertEqual([told(cutting) for cutting in reversed(cuttings)], before[::-1])
        self.assertEqual([told(made(dims, CUTS_OF_DIMS[dims][:5])) for dims in (1, 2, 3)], before)


class Interface(unittest.TestCase):
    def test_names_and_arguments(self):
        for name, arguments in [("flats", []), ("flat_of", ["some"]), ("flat_numbers", [])]:
            self.assertEqual(list(inspect.signature(getattr(module, name)).parameters), ["cutting"] + arguments)


if __name__ == "__main__":
    unittest.main()
