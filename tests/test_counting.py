"""Counting alone, and traces: [52], [53], [54], and [2], [3] of them."""

import functools
import inspect
import itertools
import math
import unittest
from fractions import Fraction

import reckoning
from anything import things_of_no_number
from cutlands import counting as module
from cutlands.bounded import bounded_lands
from cutlands.counting import dim_sums, how_many_bounded, how_many_lands, trace
from cutlands.cuts import Cutting
from cutlands.errors import CutError, NoNumber
from cutlands.lands import lands
from reckoning import BIG, CUTS_OF_DIMS, SIDE_BY_SIDE, THROUGH_ONE_SPOT, THROUGH_WHAT_TWO_HAVE, made

PARTS = [Fraction(0), Fraction(1), Fraction(-7, 3), Fraction(5, 2), Fraction(BIG, BIG - 1), Fraction(-BIG)]


@functools.cache
def right_lands_of(dims, cuts):
    return reckoning.all_lands(list(cuts), dims)


def all_cuttings():
    return reckoning.small_cuttings() + reckoning.great_cuttings() + reckoning.full_cuttings()


def told(cutting):
    """All that is told by counting, to be held against what is told later."""
    traces = []
    if cutting.dims() > 1:
        for k in range(cutting.many()):
            answer = trace(cutting, k)
            traces.append((answer[0].dims(), answer[0].cuts(), [list(row) for row in answer[1]]))
    return (dim_sums(cutting), how_many_lands(cutting), how_many_bounded(cutting), traces)


class CountCase(unittest.TestCase):
    def each_cutting(self):
        for dims, cuts in all_cuttings():
            with self.subTest(dims=dims, cuts=cuts):
                yield dims, cuts, made(dims, cuts)

    def each_trace(self):
        for dims, cuts, cutting in self.each_cutting():
            if dims > 1:
                for k in range(len(cuts)):
                    yield dims, cuts, cutting, k


class Sums(CountCase):
    def test_sums_by_choices(self):
        for dims, cuts, cutting in self.each_cutting():
            right = [0] * (dims + 1)
            for flat, number in reckoning.all_flats(cuts, dims).items():
                right[flat[0]] += number
            answer = dim_sums(cutting)
            self.assertIs(type(answer), list)
            self.assertEqual([type(number) for number in answer], [int] * (dims + 1))
            self.assertEqual(answer, right)

    def test_written_out(self):
        self.assertEqual(dim_sums(Cutting(2, [(1, 0, 0), (0, 1, 0), (1, 1, 1)])), [3, -3, 1])
        self.assertEqual(dim_sums(Cutting(2, [(1, 0, 1), (0, 1, 2), (1, 1, 3)])), [2, -3, 1])
        self.assertEqual(dim_sums(Cutting(2, [(1, 0, 1), (1, 0, 2)])), [0, -2, 1])
        self.assertEqual(dim_sums(Cutting(1, [(1, 1), (1, 2)])), [-2, 1])
        self.assertEqual(dim_sums(Cutting(3, [(1, 0, 0, 1), (0, 1, 0, 2), (0, 0, 1, 0), (1, 1, 0, 3)])), [-2, 5, -4, 1])
        for dims in (1, 2, 3):
            self.assertEqual(dim_sums(Cutting(dims, [])), [0] * dims + [1])


class HowMany(CountCase):
    def test_as_many_lands_as_one_by_one(self):
        for dims, cuts, cutting in self.each_cutting():
            answer = how_many_lands(cutting)
            self.assertIs(type(answer), int)
            self.assertEqual(answer, len(lands(cutting)))

    def test_as_many_lands_as_are_reckoned(self):
        for dims, cuts in reckoning.small_cuttings():
            self.assertEqual(how_many_lands(made(dims, cuts)), len(right_lands_of(dims, tuple(cuts))))

    def test_as_many_bounded_ones_as_one_by_one(self):
        for dims, cuts, cutting in self.each_cutting():
            answer = how_many_bounded(cutting)
            self.assertIs(type(answer), int)
            self.assertEqual(answer, len(bounded_lands(cutting)))

    def test_as_many_bounded_ones_as_are_reckoned(self):
        for dims, cuts in reckoning.small_cuttings():
            ends = [reckoning.ends_of_lands(cuts, dims, place) for place in range(dims)]
            right = [land for land in ends[0] if all(None not in told_ends[land] for told_ends in ends)]
            self.assertEqual(how_many_bounded(made(dims, cuts)), len(right))

    def test_written_out(self):
        for dims in (1, 2, 3):
            for many in range(8):
                # Cuts that touch a bent line lie in no special way.
                cuts = [tuple(k ** power for power in range(1, dims)) + (1, k ** dims) for k in range(1, many + 1)]
                cutting = Cutting(dims, cuts)
                self.assertEqual(how_many_lands(cutting), sum(math.comb(many, chosen) for chosen in range(dims + 1)))
                self.assertEqual(how_many_bounded(cutting), math.comb(many - 1, dims) if many else 0)

    def test_no_bounded_ones_where_no_d_have_one_spot(self):
        for dims in (1, 2, 3):
            self.assertEqual(how_many_bounded(Cutting(dims, [])), 0)
            self.assertEqual(how_many_bounded(made(dims, CUTS_OF_DIMS[dims][:1])), 0)
        for dims in (2, 3):
            cutting = made(dims, SIDE_BY_SIDE[dims])
            self.assertEqual(how_many_bounded(cutting), 0)
            self.assertNotEqual(sum(dim_sums(cutting)), 0)
        # A tube: its numbers come to 1, but no spot lies on three.
        tube = Cutting(3, [(1, 0, 0, 0), (0, 1, 0, 0), (1, 1, 0, 1)])
        self.assertEqual(sum(dim_sums(tube)), 1)
        self.assertEqual(how_many_bounded(tube), 0)
        for dims in (2, 3):
            self.assertEqual(how_many_bounded(made(dims, THROUGH_ONE_SPOT[dims])), 0)


def lifted(cut, place, parts):
    """The spot on the cut that has these parts at the places but one."""
    others = list(cut[:place]) + list(cut[place + 1:-1])
    left = cut[-1] - sum(number * part for number, part in zip(others, parts))
    return tuple(parts[:place]) + (Fraction(left) / cut[place],) + tuple(parts[place:])


class Trace(CountCase):
    def check_trace(self, dims, cuts, cutting, k):
        """Asks, holds the answer against the test's own reckoning, and tells it."""
        answer = trace(cutting, k)
        self.assertIs(type(answer), tuple)
        self.assertEqual(len(answer), 2)
        self.assertIs(type(answer[0]), Cutting)
        self.assertEqual(answer[0].dims(), dims - 1)
        self.check_whence(dims, cuts, k, answer[1])
        self.assertEqual(answer[0].many(), len(answer[1]))
        for one in answer[0].cuts():
            self.assertEqual(math.gcd(*one), 1)
        self.check_sides(dims, cuts, k, answer)
        return answer

    def check_whence(self, dims, cuts, k, whence):
        """Those that meet the cut, together where they have the same spots there, in order."""
        right = {}
        for number, other in enumerate(cuts):
            flat = reckoning.flat_on(cuts, dims, (k, number))
            if number != k and flat is not None:
                right.setdefault(flat, []).append(number)
        self.assertIs(type(whence), list)
        self.assertEqual(whence, list(right.values()))
        for row in whence:
            self.assertIs(type(row), list)
            self.assertEqual([type(number) for number in row], [int] * len(row))

    def check_sides(self, dims, cuts, k, answer):
        """Spots of the trace lie on the same sides there as, with the part left out, of the other cuts."""
        place = next(place for place, number in enumerate(cuts[k]) if number)
        seen = answer[0].cuts()
        spots = list(itertools.product(PARTS, repeat=dims - 1)) + self.spots_on(seen, dims - 1)
        for parts in spots:
            spot = lifted(cuts[k], place, parts)
            right = reckoning.sides(cuts, spot)
            self.assertEqual(right[k], 0)
            for side, row in zip(reckoning.sides(seen, parts), answer[1], strict=True):
                self.assertEqual(side, right[row[0]])
                for number in row:
                    self.assertEqual(side == 0, right[number] == 0)

    def spots_on(self, cuts, dims):
        """Spots on each of the cuts."""
        told = []
        for cut in cuts:
            place = next(place for place, number in enumerate(cut) if number)
            told.extend(lifted(cut, place, parts) for parts in itertools.product(PARTS[:4], repeat=dims - 1))
        return told

    def test_each_cut_of_each_cutting(self):
        for dims, cuts, cutting, k in self.each_trace():
            self.check_trace(dims, cuts, cutting, k)

    def check_written(self, dims, cuts, k, right_cuts, right_whence):
        answer = self.check_trace(dims, cuts, made(dims, cuts), k)
        self.assertEqual(answer[0].cuts(), right_cuts)
        self.assertEqual(answer[1], right_whence)

    def test_written_out(self):
        self.check_written(2, [(1, 0, 3), (2, -1, 3)], 0, [(-1, -3)], [[1]])
        # On the second, x is left out: of (y + 3) / 2 = 3.
        self.check_written(2, [(1, 0, 3), (2, -1, 3)], 1, [(1, 3)], [[0]])
        self.check_written(2, [(0, 2, 3), (4, 6, 8)], 0, [(4, -1)], [[1]])
        # The cut is turned to the other side, but the sides of the others stay.
        self.check_written(2, [(-1, 0, -3), (2, -1, 3)], 0, [(-1, -3)], [[1]])
        self.check_written(3, [(0, 0, -2, 4), (3, 0, 6, 0), (0, 5, 1, -2)], 0, [(1, 0, 4), (0, 1, 0)], [[1], [2]])

    def test_nothing_left_out_but_ones_beside(self):
        cuts = [(1, 0, 0), (3, 0, 1), (0, 1, 0), (-1, 0, 5)]
        self.check_written(2, cuts, 0, [(1, 0)], [[2]])
        self.check_written(2, cuts, 2, [(1, 0), (3, 1), (-1, 5)], [[0], [1], [3]])
        for dims in (2, 3):
            for k in range(len(SIDE_BY_SIDE[dims])):
                self.check_written(dims, SIDE_BY_SIDE[dims], k, [], [])

    def test_of_the_same_spots_the_first_alone(self):
        cuts = [(1, 0, 1), (0, -1, -2), (1, 1, 3), (-1, 1, 1), (1, 0, 4)]
        self.check_written(2, cuts, 0, [(-1, -2)], [[1, 2, 3]])
        self.check_written(2, cuts, 2, [(-1, -2), (-1, 1)], [[0, 1, 3], [4]])
        planes = [(0, 0, 1, 0), (1, 0, 0, 1), (0, 1, 0, 1), (1, 0, 1, 1), (-2, 0, 5, -2)]
        self.check_written(3, planes, 0, [(1, 0, 1), (0, 1, 1)], [[1, 3, 4], [2]])
        for dims in (2, 3):
            answer = trace(made(dims, THROUGH_WHAT_TWO_HAVE[dims]), 1)
            self.assertEqual(answer[1], [[0, 2, 3], [4]])

    def test_in_lowest_numbers(self):
        self.check_written(2, [(1, 0, 0), (0, 6, 9)], 0, [(2, 3)], [[1]])
        self.check_written(2, [(2, 4, 6), (6, 4, 10)], 0, [(-1, -1)], [[1]])
        self.check_written(2, [(1, 0, 0), (5, -6, 0)], 0, [(-1, 0)], [[1]])

    def test_the_only_cut_has_a_trace_without_cuts(self):
        for dims in (2, 3):
            answer = trace(made(dims, CUTS_OF_DIMS[dims][:1]), 0)
            self.assertEqual((answer[0].dims(), answer[0].cuts(), answer[1]), (dims - 1, [], []))

    def test_a_trace_of_a_trace(self):
        cutting = made(3, reckoning.SPACE_CUTS)
        for k in range(7):
            on_it = trace(cutting, k)[0]
            for other in range(on_it.many()):
                self.check_trace(2, on_it.cuts(), on_it, other)

    def test_no_number(self):
        for dims in (1, 2, 3):
            for many in (0, 1, 2, 7):
                cutting = made(dims, CUTS_OF_DIMS[dims][:many])
                for thing in [-1, -many, many, many + 1, BIG, -BIG] + things_of_no_number():
                    if thing.__class__ is not int or thing < 0 or thing >= many:
                        with self.assertRaises(NoNumber):
                            trace(cutting, thing)

    def test_of_one_dim_no_number_at_all(self):
        for many in range(8):
            for k in range(-1, 9):
                with self.assertRaises(NoNumber):
                    trace(made(1, CUTS_OF_DIMS[1][:many]), k)


class So(CountCase):
    """[54]."""

    def test_sums_without_a_cut_less_those_of_its_trace(self):
        for dims, cuts, cutting, k in self.each_trace():
            without = dim_sums(cutting.without(k))
            on_it = dim_sums(trace(cutting, k)[0]) + [0]
            self.assertEqual(dim_sums(cutting), [one - other for one, other in zip(without, on_it, strict=True)])

    def test_lands_without_a_cut_and_in_its_trace(self):
        for dims, cuts, cutting, k in self.each_trace():
            on_it = trace(cutting, k)[0]
            self.assertEqual(how_many_lands(cutting), how_many_lands(cutting.without(k)) + how_many_lands(on_it))
            self.assertEqual(len(lands(cutting)), len(lands(cutting.without(k))) + len(lands(on_it)))

    def test_no_more_lands_than_choices(self):
        for dims, cuts, cutting in self.each_cutting():
            most = sum(math.comb(len(cuts), chosen) for chosen in range(dims + 1))
            self.assertLessEqual(how_many_lands(cutting), most)


class Kept(unittest.TestCase):
    """[2] and [3]."""

    def test_lists_that_were_told_may_be_changed(self):
        cutting = made(3, THROUGH_WHAT_TWO_HAVE[3])
        before = told(cutting)
        untouched = trace(cutting, 1)
        for question in (
            dim_sums, lambda cutting: trace(cutting, 1)[1], lambda cutting: trace(cutting, 1)[1][0],
            lambda cutting: trace(cutting, 1)[0].cuts(),
        ):
            for change in (list.clear, list.reverse, lambda row: row.append(None)):
                change(question(cutting))
                self.assertEqual(told(cutting), before)
        self.assertEqual(untouched[1], [[0, 2, 3], [4]])
        answer = trace(cutting, 1)
        answer[1][0].append(answer[1][1])
        answer[1][1].clear()
        self.assertEqual(told(cutting), before)
        self.assertEqual(untouched[1], [[0, 2, 3], [4]])
        self.assertEqual(cutting.cuts(), THROUGH_WHAT_TWO_HAVE[3])

    def test_asked_again_also_behind_another_cutting_and_a_refusal(self):
        cuttings = [made(dims, CUTS_OF_DIMS[dims][:5]) for dims in (1, 2, 3)]
        before = [told(cutting) for cutting in cuttings]
        for cutting in cuttings:
            for thing in (None, 5, -1, True):
                with self.assertRaises(CutError):
                    trace(cutting, thing)
        self.assertEqual([told(cutting) for cutting in reversed(cuttings)], before[::-1])
        self.assertEqual([told(made(dims, CUTS_OF_DIMS[dims][:5])) for dims in (1, 2, 3)], before)


class Interface(unittest.TestCase):
    def test_names_and_arguments(self):
        for name, arguments in [
            ("dim_sums", []), ("how_many_lands", []), ("how_many_bounded", []), ("trace", ["k"]),
        ]:
            self.assertEqual(list(inspect.signature(getattr(module, name)).parameters), ["cutting"] + arguments)


if __name__ == "__main__":
    unittest.main()
