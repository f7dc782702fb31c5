"""Tables of signs over spots: [60] to [64], and [2], [3] of them."""

import inspect
import itertools
import math
import random
import unittest
from fractions import Fraction

import reckoning
from anything import things_of_no_number
from cutlands import tables as module
from cutlands.errors import CutError, NoSigns, NoSpot, NoTable
from cutlands.tables import drawn, draws, row_not_drawn, rows_drawn, shows_undrawn, table_drawn
from reckoning import BIG, all_rows, as_spot, changed_at_one_place

# Three spots on one line, and one beside it; a square; a spot three times.
THREE_IN_A_ROW = [((0, 1), (0, 1)), ((1, 1), (1, 1)), ((2, 1), (2, 1)), ((0, 1), (5, 1))]
SQUARE = [((0, 1), (0, 1)), ((1, 1), (0, 1)), ((0, 1), (1, 1)), ((1, 1), (1, 1))]
ALIKE = [((1, 2), (2, 3)), ((1, 2), (2, 3)), ((0, 1), (1, 1)), ((1, 2), (2, 3))]
ON_A_LINE = [((0, 1),), ((1, 1),), ((1, 2),), ((-3, 1),)]
CORNERS = [((0, 1), (0, 1), (0, 1)), ((1, 1), (0, 1), (0, 1)), ((0, 1), (1, 1), (0, 1)), ((0, 1), (0, 1), (1, 1))]
GREAT_SPOTS = [
    ((BIG, 1), (1 - BIG, BIG)), ((BIG - 1, BIG), (-BIG, 1)), ((1, BIG), (1, BIG - 1)), ((BIG - 2, BIG - 1), (BIG, 2)),
]


def spots_by_chance(seed, dims, many, size, bottoms=3):
    """Spots, drawn alike each time."""
    draw = random.Random(seed)
    told = []
    for number in range(many):
        told.append(as_spot(Fraction(draw.randint(-size, size), draw.randint(1, bottoms)) for place in range(dims)))
    return told


def few_spots():
    """Tuples (dims, spots): few enough spots that all rows can be asked for."""
    told = [(2, THREE_IN_A_ROW), (2, SQUARE), (2, ALIKE), (1, ON_A_LINE), (3, CORNERS), (2, GREAT_SPOTS)]
    told.append((3, CORNERS + [((1, 4), (1, 4), (1, 4))]))
    told.append((3, [((1, 1), (2, 1), (3, 1))] * 3))
    told.append((3, [spot + ((7, 2),) for spot in SQUARE]))
    for dims in (1, 2, 3):
        for many in (1, 2, 3, 4, 5):
            told.append((dims, spots_by_chance(many, dims, many, 3)))
            told.append((dims, spots_by_chance(10 + many, dims, many, 1, 1)))
        told.append((dims, spots_by_chance(20, dims, 4, BIG, BIG)))
    return told


def many_spots():
    """Tuples (dims, spots) of six to eight spots."""
    told = []
    for dims in (1, 2, 3):
        for many in (6, 7, 8):
            told.append((dims, spots_by_chance(many, dims, many, 4)))
            told.append((dims, spots_by_chance(30 + many, dims, many, 1, 1)))
    told.append((3, [tuple((part, 1) for part in parts) for parts in itertools.product((0, 1), repeat=3)]))
    told.append((2, [((k, 1), (k * k, 1)) for k in range(8)]))
    told.append((3, [((k, 1), (k * k, 1), (k ** 3, 1)) for k in range(8)]))
    return told


def some_rows(seed, many):
    """Rows over many spots, drawn alike each time."""
    draw = random.Random(seed)
    for number in range(60):
        row = tuple(draw.choice((-1, 0, 1) if number % 2 else (-1, 1)) for place in range(many))
        if any(row):
            yield row


def is_right_cut(dims, spots, row, cut):
    """[60], word by word."""
    if not any(cut[:dims]):
        return False
    return all(
        reckoning.sign(reckoning.left_at(cut, reckoning.as_fractions(spot))) == mark for spot, mark in zip(spots, row)
    )


def is_right_weights(dims, spots, row, weights):
    """[61], word by word."""
    for mark, weight in zip(row, weights):
        if mark == 1 and weight < 0 or mark == -1 and weight > 0:
            return False
    if all(weight == 0 for mark, weight in zip(row, weights) if mark != 0):
        return False
    if sum(weights) != 0:
        return False
    parts = [reckoning.as_fractions(spot) for spot in spots]
    return not any(reckoning.taken_often(parts, weights))


def told(dims, spots):
    """All that is told over spots, to be held against what is told later."""
    each = [drawn(dims, spots, row) for row in some_rows(1, len(spots))]
    table = list(some_rows(2, len(spots)))[:8]
    return (rows_drawn(dims, spots), row_not_drawn(dims, spots), each, table_drawn(dims, spots, table))


class TableCase(unittest.TestCase):
    def check_cut(self, dims, spots, row, cut):
        self.assertIs(type(cut), tuple)
        self.assertEqual([type(number) for number in cut], [int] * (dims + 1))
        self.assertTrue(is_right_cut(dims, spots, row, cut), (spots, row, cut))
        self.assertIs(draws(dims, spots, row, cut), True)

    def check_weights(self, dims, spots, row, weights):
        self.assertIs(type(weights), list)
        self.assertEqual([type(weight) for weight in weights], [int] * len(spots))
        self.assertTrue(is_right_weights(dims, spots, row, weights), (spots, row, weights))
        self.assertIs(shows_undrawn(dims, spots, row, weights), True)

    def check_drawn(self, dims, spots, row):
        """Asks, holds the answer against the test's own reckoning, and tells it."""
        answer = drawn(dims, spots, row)
        self.assertIs(type(answer), tuple)
        self.assertEqual(len(answer), 2)
        if answer[0] == "cut":
            self.check_cut(dims, spots, row, answer[1])
        else:
            self.assertEqual(answer[0], "weights")
            self.check_weights(dims, spots, row, answer[1])
        return answer


class Drawn(TableCase):
    def test_all_rows_over_few_spots(self):
        for dims, spots in few_spots():
            found = reckoning.circuits(spots)
            for row in all_rows(len(spots)):
                if any(row):
                    with self.subTest(dims=dims, spots=spots, row=row):
                        right = "cut" if reckoning.is_drawn(found, row) else "weights"
                        self.assertEqual(self.check_drawn(dims, spots, row)[0], right)

    def test_rows_over_many_spots(self):
        for dims, spots in many_spots():
            found = reckoning.circuits(spots)
            for row in some_rows(dims, len(spots)):
                with self.subTest(dims=dims, spots=spots, row=row):
                    right = "cut" if reckoning.is_drawn(found, row) else "weights"
                    self.assertEqual(self.check_drawn(dims, spots, row)[0], right)

    def test_always_a_cut_for_the_sides_of_a_cut(self):
        for dims, spots in few_spots() + many_spots():
            for cut in reckoning.CUTS_OF_DIMS[dims] + reckoning.GREAT[dims]:
                row = tuple(reckoning.sides([cut], reckoning.as_fractions(spot))[0] for spot in spots)
                if any(row):
                    self.assertEqual(self.check_drawn(dims, spots, row)[0], "cut")

    def test_all_on_one_side(self):
        for dims, spots in few_spots() + many_spots():
            for mark in (1, -1):
                self.assertEqual(self.check_drawn(dims, spots, (mark,) * len(spots))[0], "cut")

    def test_one_spot(self):
        for dims in (1, 2, 3):
            for part in ((0, 1), (-7, 3), (BIG, 1), (-BIG, BIG - 1)):
                for mark in (1, -1):
                    self.assertEqual(self.check_drawn(dims, [(part,) * dims], (mark,))[0], "cut")

    def test_written_out(self):
        self.assertEqual(self.check_drawn(2, THREE_IN_A_ROW, (1, 0, -1, 1))[0], "cut")
        self.assertEqual(self.check_drawn(2, THREE_IN_A_ROW, (0, 0, 0, -1))[0], "cut")
        weights = self.check_drawn(2, THREE_IN_A_ROW, (0, 0, 1, 0))[1]
        self.assertEqual((weights[0], weights[1], weights[3]), (weights[2], -2 * weights[2], 0))
        weights = self.check_drawn(2, SQUARE, (1, -1, -1, 1))[1]
        self.assertEqual(weights, [weights[0], -weights[0], -weights[0], weights[0]])
        self.assertEqual(self.check_drawn(2, ALIKE, (1, -1, 1, 1))[0], "weights")
        self.assertEqual(self.check_drawn(2, ALIKE, (0, 0, 1, 0))[0], "cut")
        self.assertEqual(self.check_drawn(1, [((1, 2),), ((1, 3),)], (0, 1))[0], "cut")
        self.assertEqual(self.check_drawn(1, [((1, 2),), ((1, 3),), ((2, 5),)], (1, 1, -1))[0], "weights")

    def test_spots_with_unlike_bottoms(self):
        # The weights are those of the spots themselves, whatever their bottoms.
        spots = [((1, 2),), ((1, 3),), ((1, 7),)]
        weights = self.check_drawn(1, spots, (1, -1, 1))[1]
        self.assertGreater(weights[0], 0)
        self.assertEqual(weights[0] * Fraction(1, 6), weights[2] * (Fraction(1, 3) - Fraction(1, 7)))


class Draws(TableCase):
    def check(self, dims, spots, row, cut):
        right = is_right_cut(dims, spots, row, cut)
        self.assertIs(draws(dims, spots, row, cut), right, (spots, row, cut))
        return right

    def test_cuts_told_and_what_becomes_of_them(self):
        for dims, spots in few_spots():
            for row in some_rows(3, len(spots)):
                answer = drawn(dims, spots, row)
                if answer[0] == "cut":
                    cut = answer[1]
                    self.assertTrue(self.check(dims, spots, row, tuple(5 * number for number in cut)))
                    self.assertFalse(self.check(dims, spots, row, tuple(-number for number in cut)))
                    self.assertFalse(self.check(dims, spots, row, (0,) * (dims + 1)))
                    for changed in changed_at_one_place(cut):
                        self.check(dims, spots, row, changed)
                    for other in changed_at_one_place(row, (2, -2, 1, -1)):
                        if any(other) and all(-1 <= mark <= 1 for mark in other):
                            self.assertFalse(self.check(dims, spots, other, cut))

    def test_all_small_cuts(self):
        found = 0
        for dims, spots in ((1, ON_A_LINE), (2, THREE_IN_A_ROW), (2, SQUARE)):
            for row in all_rows(len(spots)):
                if any(row):
                    for cut in itertools.product(range(-2, 3), repeat=dims + 1):
                        found += self.check(dims, spots, row, cut)
        self.assertGreater(found, 100)

    def test_no_d_numbers_but_0_is_no_cut(self):
        # They would tell the right sides, but no cut has them.
        for dims in (1, 2, 3):
            spots = spots_by_chance(5, dims, 4, 3)
            for mark in (1, -1):
                self.assertIs(draws(dims, spots, (mark,) * 4, (0,) * dims + (-mark,)), False)

    def test_anything(self):
        for dims in (1, 2, 3):
            for many in (1, 3, 8):
                spots = spots_by_chance(6, dims, many, 3)
                row = (1,) * many
                for thing in things_of_no_number():
                    self.assertIs(draws(dims, spots, row, thing), False)
                    self.assertIs(draws(dims, spots, row, (1,) * dims + (thing,)), False)
                    self.assertIs(draws(dims, spots, row, (1,) * (dims - 1) + (thing, -BIG)), False)
                for thing in [0, 1, -1, BIG] + things_of_no_number():
                    self.assertIs(draws(dims, spots, row, (1,) * dims + (-BIG, thing)), False)
                    self.assertIs(draws(dims, spots, row, [1] * dims + [-BIG]), False)
                    self.assertIs(draws(dims, spots, row, thing), False)

    def test_right_cuts_of_another_form(self):
        self.assertIs(draws(1, [((3, 1),)], (1,), (1, 2)), True)
        for thing in ([1, 2], (True, 2), (1, True), (1.0, 2), (1, 2, 0), (1,), (1, "2"), {0: 1, 1: 2}, ((1,), (2,))):
            self.assertIs(draws(1, [((3, 1),)], (1,), thing), False)


class ShowsUndrawn(TableCase):
    def check(self, dims, spots, row, weights):
        right = is_right_weights(dims, spots, row, weights)
        self.assertIs(shows_undrawn(dims, spots, row, weights), right, (spots, row, weights))
        return right

    def test_all_small_weights(self):
        found = 0
        for dims, spots in [
            (1, ON_A_LINE[:3]), (2, SQUARE), (2, ALIKE), (2, THREE_IN_A_ROW), (1, [((1, 3),), ((1, 3),)]),
            (3, [spot + ((1, 2),) for spot in ALIKE[:3]]), (2, [((0, 1), (0, 1)), ((0, 1), (1, 1)), ((0, 1), (2, 1))]),
        ]:
            for row in all_rows(len(spots)):
                if any(row):
                    for weights in itertools.product(range(-2, 3), repeat=len(spots)):
                        found += self.check(dims, spots, row, list(weights))
        self.assertGreater(found, 100)

    def test_weights_told_and_what_becomes_of_them(self):
        for dims, spots in few_spots() + many_spots():
            for row in some_rows(4, len(spots)):
                answer = drawn(dims, spots, row)
                if answer[0] == "weights":
                    self.check_changed(dims, spots, row, answer[1])

    def check_changed(self, dims, spots, row, weights):
        self.assertTrue(self.check(dims, spots, row, [5 * weight for weight in weights]))
        self.assertFalse(self.check(dims, spots, row, [0] * len(weights)))
        self.assertFalse(self.check(dims, spots, row, [-weight for weight in weights]))
        for changed in changed_at_one_place(weights):
            # They don't come to 0 together any more.
            self.assertFalse(self.check(dims, spots, row, changed))
        self.check(dims, spots, row, weights[1:] + weights[:1])
        for other in changed_at_one_place(row, (2, -2, 1, -1)):
            if any(other) and all(-1 <= mark <= 1 for mark in other):
                self.check(dims, spots, other, weights)

    def test_each_condition_by_itself(self):
        spots = [((0, 1), (0, 1)), ((1, 1), (0, 1)), ((2, 1), (0, 1)), ((0, 1), (1, 1))]
        self.assertTrue(self.check(2, spots, (1, -1, 1, 1), [1, -2, 1, 0]))
        self.assertTrue(self.check(2, spots, (0, -1, 0, 1), [1, -2, 1, 0]))
        self.assertFalse(self.check(2, spots, (-1, -1, 1, 1), [1, -2, 1, 0]))
        self.assertFalse(self.check(2, spots, (1, 1, 1, 1), [1, -2, 1, 0]))
        # All weights that are not 0 stand at noughts.
        self.assertFalse(self.check(2, spots, (0, 0, 0, 1), [1, -2, 1, 0]))
        # Right in each dim, but they don't come to 0 together; right together, but not in the first dim, or the second.
        self.assertFalse(self.check(2, spots, (1, -1, 1, 1), [7, -2, 1, 0]))
        self.assertFalse(self.check(2, spots, (1, -1, 1, 1), [1, -1, 0, 0]))
        self.assertFalse(self.check(2, spots, (1, -1, 1, -1), [1, 0, 0, -1]))

    def test_anything(self):
        for dims in (1, 2, 3):
            for many in (1, 3, 8):
                spots = [((1, 1),) * dims] * many
                for row in ((1,) * many, (0,) * (many - 1) + (-1,)):
                    noughts = [(0,) * many, [0] * (many + 1), [0] * (many - 1)]
                    for thing in [0, 1, -1, BIG] + noughts + things_of_no_number():
                        self.assertIs(shows_undrawn(dims, spots, row, thing), False)
                        self.assertIs(shows_undrawn(dims, spots, row, [thing] * many), False)
                        self.assertIs(shows_undrawn(dims, spots, row, [0] * (many - 1) + [thing]), False)

    def test_right_weights_of_another_form(self):
        spots = [((1, 2),), ((1, 2),)]
        self.assertIs(shows_undrawn(1, spots, (1, -1), [1, -1]), True)
        for thing in ((1, -1), [True, -1], [1.0, -1], [1, -1, 0], [1], [1, "-1"], {0: 1, 1: -1}, [[1], [-1]]):
            self.assertIs(shows_undrawn(1, spots, (1, -1), thing), False)


class TableDrawn(TableCase):
    def check_table(self, dims, spots, table):
        """Asks, holds the answer against the test's own reckoning, and tells it."""
        found = reckoning.circuits(spots)
        undrawn = [k for k, row in enumerate(table) if not reckoning.is_drawn(found, row)]
        answer = table_drawn(dims, spots, table)
        self.assertIs(type(answer), tuple)
        if undrawn:
            self.assertEqual(answer[:2], ("row", undrawn[0]))
            self.assertEqual(len(answer), 3)
            self.assertIs(type(answer[1]), int)
            self.check_weights(dims, spots, table[undrawn[0]], answer[2])
        else:
            self.assertEqual(len(answer), 2)
            self.assertEqual(answer[0], "cuts")
            self.assertIs(type(answer[1]), list)
            for row, cut in zip(table, answer[1], strict=True):
                self.check_cut(dims, spots, row, cut)
        return answer

    def test_by_chance(self):
        for dims, spots in few_spots() + many_spots():
            rows = list(some_rows(5, len(spots)))
            for many in range(1, 9):
                self.check_table(dims, spots, rows[many:2 * many])

    def test_all_rows_drawn(self):
        for dims, spots in few_spots() + many_spots():
            found = reckoning.circuits(spots)
            rows = [row for row in some_rows(6, len(spots)) if reckoning.is_drawn(found, row)]
            for many in range(1, 9):
                table = (rows + [(1,) * len(spots)] * 8)[:many]
                self.assertEqual(self.check_table(dims, spots, table)[0], "cuts")

    def test_one_or_several_that_none_draws(self):
        good = (1, 1, -1, -1)
        bad = (1, -1, -1, 1)
        worse = (-1, 1, 1, -1)
        for k in range(8):
            table = [good] * 8
            table[k] = bad
            self.assertEqual(self.check_table(2, SQUARE, table)[1], k)
            for other in range(k + 1, 8):
                table[other] = worse
                self.assertEqual(self.check_table(2, SQUARE, table)[1], k)
        self.assertEqual(self.check_table(2, SQUARE, [good, (0, 0, 1, 1), (1, 0, 0, -1)])[0], "cuts")
        self.assertEqual(self.check_table(2, SQUARE, [good, (0, 0, 1, 1), (1, 0, 0, -1), (0, 1, 1, 0)])[1], 3)

    def test_a_row_twice(self):
        self.assertEqual(len(self.check_table(2, SQUARE, [(1, 1, 1, -1)] * 8)[1]), 8)


class RowsDrawn(TableCase):
    def test_all_rows_in_order(self):
        for dims, spots in few_spots() + many_spots():
            with self.subTest(dims=dims, spots=spots):
                found = reckoning.circuits(spots)
                rows = itertools.product((-1, 1), repeat=len(spots))
                answer = rows_drawn(dims, spots)
                self.assertIs(type(answer), list)
                for row in answer:
                    self.assertIs(type(row), tuple)
                    self.assertEqual([type(mark) for mark in row], [int] * len(spots))
                self.assertEqual(answer, [row for row in rows if reckoning.is_drawn(found, row)])

    def test_written_out(self):
        self.assertEqual(rows_drawn(1, [((5, 1),)]), [(-1,), (1,)])
        self.assertEqual(rows_drawn(3, [((5, 1), (0, 1), (1, 2))] * 3), [(-1, -1, -1), (1, 1, 1)])
        line = [((0, 1),), ((2, 1),), ((1, 1),)]
        right = [(-1, -1, -1), (-1, 1, -1), (-1, 1, 1), (1, -1, -1), (1, -1, 1), (1, 1, 1)]
        self.assertEqual(rows_drawn(1, line), right)
        self.assertEqual(len(rows_drawn(2, SQUARE)), 14)

    def test_each_is_drawn_by_a_cut_that_is_told(self):
        for dims, spots in few_spots():
            for row in rows_drawn(dims, spots):
                self.assertEqual(self.check_drawn(dims, spots, row)[0], "cut")


class RowNotDrawn(TableCase):
    def test_some_row_or_none(self):
        for dims, spots in few_spots() + many_spots():
            with self.subTest(dims=dims, spots=spots):
                answer = row_not_drawn(dims, spots)
                found = reckoning.circuits(spots)
                if not found:
                    self.assertIsNone(answer)
                else:
                    self.assertIs(type(answer), tuple)
                    self.assertEqual(len(answer), 2)
                    self.assertIs(type(answer[0]), tuple)
                    self.assertEqual([type(mark) for mark in answer[0]], [int] * len(spots))
                    self.assertTrue(set(answer[0]) <= {1, -1})
                    self.assertFalse(reckoning.is_drawn(found, answer[0]))
                    self.check_weights(dims, spots, answer[0], answer[1])

    def test_none_just_where_each_is_drawn(self):
        for dims, spots in few_spots() + many_spots():
            each = len(rows_drawn(dims, spots)) == 2 ** len(spots)
            self.assertEqual(row_not_drawn(dims, spots) is None, each)

    def test_written_out(self):
        for dims in (1, 2, 3):
            self.assertIsNone(row_not_drawn(dims, [((1, 3),) * dims]))
            self.assertIsNotNone(row_not_drawn(dims, [((1, 3),) * dims] * 2))
        self.assertIsNone(row_not_drawn(3, CORNERS))
        self.assertIsNone(row_not_drawn(2, SQUARE[:3]))
        self.assertIn(row_not_drawn(2, SQUARE)[0], [(1, -1, -1, 1), (-1, 1, 1, -1)])


class So(TableCase):
    """[64]."""

    def test_with_each_row_its_turned_one(self):
        for dims, spots in few_spots() + many_spots():
            rows = rows_drawn(dims, spots)
            self.assertEqual(sorted(tuple(-mark for mark in row) for row in rows), rows)
            for row in some_rows(7, len(spots)):
                turned = tuple(-mark for mark in row)
                self.assertEqual(drawn(dims, spots, row)[0], drawn(dims, spots, turned)[0])

    def test_all_rows_just_where_none_is_told_by_the_others(self):
        for dims, spots in few_spots():
            free = reckoning.rank([reckoning.as_fractions(spot) + (1,) for spot in spots]) == len(spots)
            each = all(drawn(dims, spots, row)[0] == "cut" for row in all_rows(len(spots)) if any(row))
            self.assertEqual(each, free)
            self.assertEqual(row_not_drawn(dims, spots) is None, free)

    def test_no_more_rows_than_choices(self):
        for dims, spots in few_spots() + many_spots():
            most = 2 * sum(math.comb(len(spots) - 1, chosen) for chosen in range(dims + 1))
            self.assertLessEqual(len(rows_drawn(dims, spots)), most)

    def test_as_many_rows_as_there_can_be(self):
        for dims in (1, 2, 3):
            for many in range(1, 9):
                # Spots of a bent line lie in no special way.
                spots = [tuple((k ** power, 1) for power in range(1, dims + 1)) for k in range(many)]
                most = 2 * sum(math.comb(many - 1, chosen) for chosen in range(dims + 1))
                self.assertEqual(len(rows_drawn(dims, spots)), most)


def wrong_dims():
    return [0, 4, -1, 5, BIG, -BIG] + things_of_no_number()


def wrong_lists(dims):
    """Things that are no list of one to eight spots of so many dims."""
    good = ((1, 2),) * dims
    yield from [0, 1, (good,), good, "spots", {0: good}, [], [good] * 9, [good] * 20, iter([good])]
    for thing in things_of_no_number():
        if not isinstance(thing, list):
            yield thing
        yield [thing]
        yield [good, thing]
        yield [thing] + [good] * 7
        yield [good, (thing,) * dims]
        yield [((thing, 1),) + good[1:]]
        yield [good, good[1:] + ((1, thing),)]
    for wrong in [(2, 4), (1, 0), (0, 2), (1, -2), (-1, -1), [1, 2], (1,), (1, 2, 3), 1]:
        yield [good[1:] + (wrong,)]
        yield [good, (wrong,) + good[1:], good]
    yield [good + ((1, 2),)]
    yield [good, good[1:]]
    yield [list(good)]


def wrong_rows(many):
    """Things that are no row over so many spots."""
    yield from reckoning.wrong_signs(many)
    yield (0,) * many


class Refused(unittest.TestCase):
    ROW_QUESTIONS = [
        drawn, lambda dims, spots, row: draws(dims, spots, row, None),
        lambda dims, spots, row: draws(dims, spots, row, (1,) * 4),
        lambda dims, spots, row: shows_undrawn(dims, spots, row, None),
        lambda dims, spots, row: shows_undrawn(dims, spots, row, [0] * 4),
    ]

    def refused(self, kind, question, *handed_in):
        with self.assertRaises(kind) as caught:
            question(*handed_in)
        self.assertIs(type(caught.exception), kind)
        return caught.exception

    def check_no_spot(self, dims, spots):
        for question in self.ROW_QUESTIONS:
            for row in ((1,), (1, -1), None, (0,), (0, 0)):
                self.refused(NoSpot, question, dims, spots, row)
        for table in ([(1,)], [(1, -1)], None, [], [None]):
            self.refused(NoSpot, table_drawn, dims, spots, table)
        self.refused(NoSpot, rows_drawn, dims, spots)
        self.refused(NoSpot, row_not_drawn, dims, spots)

    def test_dims_that_are_none(self):
        for thing in wrong_dims():
            for spots in ([((1, 2),)], [((1, 2),) * 4], [()], None, []):
                self.check_no_spot(thing, spots)

    def test_no_list_of_spots(self):
        for dims in (1, 2, 3):
            for thing in wrong_lists(dims):
                self.check_no_spot(dims, thing)

    def test_no_row(self):
        for dims in (1, 2, 3):
            for many in (1, 2, 8):
                spots = spots_by_chance(8, dims, many, 3)
                for row in wrong_rows(many):
                    for question in self.ROW_QUESTIONS:
                        self.refused(NoSigns, question, dims, spots, row)

    def test_no_table(self):
        spots = SQUARE[:2]
        for thing in [0, 1, -1, (), ((1, -1),), {0: (1, -1)}, "", [], [(1, 1)] * 9, [None] * 9] + things_of_no_number():
            if not (isinstance(thing, list) and 1 <= len(thing) <= 8):
                self.assertEqual(self.refused(NoTable, table_drawn, 2, spots, thing).at, -1)

    def test_a_row_of_a_table_that_is_none(self):
        for many in (1, 2, 8):
            spots = spots_by_chance(9, 2, many, 3)
            good = (1,) * many
            for row in wrong_rows(many):
                for at in range(8):
                    error = self.refused(NoTable, table_drawn, 2, spots, [good] * at + [row])
                    self.assertEqual(error.at, at)
                error = self.refused(NoTable, table_drawn, 2, spots, [good] * 3 + [row, good, row, good, None])
                self.assertEqual(error.at, 3)

    def test_a_row_that_is_none_behind_one_that_none_draws(self):
        table = [(1, -1, -1, 1), (0, 0, 0, 0)]
        self.assertEqual(self.refused(NoTable, table_drawn, 2, SQUARE, table).at, 1)

    def test_the_edges_are_taken(self):
        spot = ((1, 2),)
        self.assertEqual(rows_drawn(1, [spot] * 8), [(-1,) * 8, (1,) * 8])
        self.assertEqual(len(table_drawn(1, [spot] * 8, [(1,) * 8] * 8)[1]), 8)


class Kept(unittest.TestCase):
    """[2] and [3]."""

    def test_lists_that_were_told_may_be_changed(self):
        before = told(2, SQUARE)
        untouched = told(2, SQUARE)
        for question in (
            lambda: drawn(2, SQUARE, (1, -1, -1, 1))[1], lambda: table_drawn(2, SQUARE, [(1, 1, 1, 1)])[1],
            lambda: table_drawn(2, SQUARE, [(1, -1, -1, 1)])[2], lambda: rows_drawn(2, SQUARE),
            lambda: row_not_drawn(2, SQUARE)[1],
        ):
            for change in (list.clear, list.reverse, lambda row: row.append(None)):
                change(question())
                self.assertEqual(told(2, SQUARE), before)
        self.assertEqual(untouched, before)

    def test_lists_handed_in_are_as_they_were_and_may_be_changed_later(self):
        spots = list(SQUARE)
        table = [(1, 1, 1, 1), (1, -1, -1, 1), (1, 1, -1, -1)]
        weights = [1, -1, -1, 1]
        before = (told(2, SQUARE), list(table), list(weights))
        answers = [
            told(2, spots), table_drawn(2, spots, table), table_drawn(2, spots, table[:1]),
            shows_undrawn(2, spots, table[1], weights), draws(2, spots, table[0], weights),
        ]
        copied = repr(answers)
        self.assertEqual((spots, table, weights), (SQUARE, before[1], before[2]))
        for handed_in in (spots, table, weights):
            handed_in.clear()
        self.assertEqual(repr(answers), copied)
        self.assertEqual(told(2, SQUARE), before[0])

    def test_asked_again_also_behind_others_and_a_refusal(self):
        asked = few_spots()[:8] + many_spots()[:3]
        before = [told(dims, spots) for dims, spots in asked]
        for dims, spots in asked:
            for question in [
                lambda: drawn(dims, spots, None), lambda: drawn(dims, None, None), lambda: draws(0, spots, (1,), None),
                lambda: table_drawn(dims, spots, [None]), lambda: table_drawn(dims, spots, []),
                lambda: rows_drawn(dims, []), lambda: row_not_drawn(4, spots),
                lambda: shows_undrawn(dims, spots, (0,) * len(spots), []),
            ]:
                with self.assertRaises(CutError):
                    question()
        self.assertEqual([told(dims, list(spots)) for dims, spots in reversed(asked)], before[::-1])


class Interface(unittest.TestCase):
    def test_names_and_arguments(self):
        for name, arguments in [
            ("drawn", ["row"]), ("draws", ["row", "thing"]), ("shows_undrawn", ["row", "thing"]),
            ("table_drawn", ["table"]), ("rows_drawn", []), ("row_not_drawn", []),
        ]:
            right = ["dims", "spots"] + arguments
            self.assertEqual(list(inspect.signature(getattr(module, name)).parameters), right)


if __name__ == "__main__":
    unittest.main()
