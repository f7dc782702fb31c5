"""Walks and poles: [71] to [74], what [70] says of refusals, and [2], [3] of them."""

import functools
import inspect
import itertools
import math
import unittest

import reckoning
from anything import things_of_no_number
from cutlands import walks as module
from cutlands.bounded import bounded_lands
from cutlands.cuts import Cutting
from cutlands.errors import CutError, NoLand, NoSigns
from cutlands.lands import lands
from cutlands.walks import how_many_walks, is_walk, parting, poles, steps_off, walk
from cutlands.walls import walls
from reckoning import BIG, CUTS_OF_DIMS, SIDE_BY_SIDE, THROUGH_ONE_SPOT, all_rows, as_fractions, made, wrong_signs

SQUARE = [(1, 0, 0), (1, 0, 1), (0, 1, 0), (0, 1, 1)]


@functools.cache
def right_lands_of(dims, cuts):
    return reckoning.all_lands(list(cuts), dims)


def right_lands(dims, cuts):
    return right_lands_of(dims, tuple(cuts))


def other_sign(land, k):
    return land[:k] + (-land[k],) + land[k + 1:]


def unlike(one, other):
    return [k for k, pair in enumerate(zip(one, other)) if pair[0] != pair[1]]


def is_right_walk(cuts, all_lands, one, other, steps):
    """[71], word by word, of steps (k, spot, land) of the right kinds."""
    here = one
    gone = []
    for k, spot, land in steps:
        if not 0 <= k < len(cuts) or land != other_sign(here, k) or land not in all_lands:
            return False
        if reckoning.sides(cuts, as_fractions(spot)) != here[:k] + (0,) + here[k + 1:]:
            return False
        gone.append(k)
        here = land
    return here == other and sorted(gone) == unlike(one, other)


def orders(all_lands, one, other):
    """The orders in which the parting cuts can be gone through, by looking at all of them."""
    told = []
    for order in itertools.permutations(unlike(one, other)):
        here = one
        for k in order:
            here = other_sign(here, k)
            if here not in all_lands:
                break
        else:
            told.append(order)
    return told


def told(cutting):
    """All that is told of a cutting's walks, to be held against what is told later."""
    found = lands(cutting)
    each = [
        (parting(cutting, one, other), walk(cutting, one, other), how_many_walks(cutting, one, other))
        for one in found[:3] for other in found[-3:]
    ]
    return (each, [steps_off(cutting, land) for land in found], poles(cutting))


class WalkCase(unittest.TestCase):
    def each_pair(self, cuttings, most=10 ** 9):
        """Pairs of lands, and all that is needed to ask of them."""
        for dims, cuts in cuttings:
            right = right_lands(dims, cuts)
            pairs = list(itertools.product(right, repeat=2))
            # Some pairs, spread over all.
            for one, other in pairs[::len(pairs) // most + 1]:
                with self.subTest(dims=dims, cuts=cuts, one=one, other=other):
                    yield cuts, made(dims, cuts), one, other, right

    def all_pairs(self):
        yield from self.each_pair(reckoning.small_cuttings(), 150)
        yield from self.each_pair(reckoning.great_cuttings(), 20)
        yield from self.each_pair(reckoning.full_cuttings(), 60)


class Parting(WalkCase):
    def test_rising_numbers(self):
        for cuts, cutting, one, other, right in self.all_pairs():
            answer = parting(cutting, one, other)
            self.assertIs(type(answer), list)
            self.assertEqual([type(k) for k in answer], [int] * len(answer))
            self.assertEqual(answer, unlike(one, other))

    def test_written_out(self):
        cutting = made(2, SQUARE)
        self.assertEqual(parting(cutting, (1, -1, 1, -1), (1, 1, -1, -1)), [1, 2])
        self.assertEqual(parting(cutting, (1, 1, -1, -1), (-1, -1, 1, 1)), [0, 1, 2, 3])
        self.assertEqual(parting(cutting, (1, 1, -1, -1), (1, 1, -1, -1)), [])
        self.assertEqual(parting(Cutting(3, []), (), ()), [])


class Walk(WalkCase):
    def check_walk(self, cuts, cutting, one, other, right):
        """Asks, holds the answer against the test's own reckoning, and tells it."""
        answer = walk(cutting, one, other)
        self.assertIs(type(answer), list)
        for step in answer:
            self.assertIs(type(step), tuple)
            self.assertEqual([type(part) for part in step], [int, tuple, tuple])
            self.assertEqual([type(sign) for sign in step[2]], [int] * len(cuts))
            # The cutting itself tells whether it is a spot, in lowest terms.
            self.assertEqual(cutting.sides(step[1])[step[0]], 0)
        self.assertTrue(is_right_walk(cuts, right, one, other, answer), answer)
        self.assertIs(is_walk(cutting, one, other, answer), True)
        return answer

    def test_each_step(self):
        for cuts, cutting, one, other, right in self.all_pairs():
            answer = self.check_walk(cuts, cutting, one, other, right)
            self.assertEqual(len(answer), len(unlike(one, other)))

    def test_to_itself_no_step(self):
        for dims, cuts in reckoning.small_cuttings():
            for land in right_lands(dims, cuts):
                self.assertEqual(walk(made(dims, cuts), land, land), [])
                self.assertIs(is_walk(made(dims, cuts), land, land, []), True)

    def test_written_out(self):
        line = Cutting(1, [(1, 0), (-2, -1), (1, 2)])
        self.assertEqual(walk(line, (-1, 1, -1), (1, -1, 1)), [
            (0, ((0, 1),), (1, 1, -1)), (1, ((1, 2),), (1, -1, -1)), (2, ((2, 1),), (1, -1, 1)),
        ])
        self.assertEqual([k for k, spot, land in walk(line, (1, -1, 1), (-1, 1, -1))], [2, 1, 0])

    def test_no_other_land_than_by_walls(self):
        for cuts, cutting, one, other, right in self.each_pair(reckoning.small_cuttings(), 30):
            here = one
            for k, spot, land in walk(cutting, one, other):
                self.assertIn(k, [number for number, wall_spot in walls(cutting, here)])
                here = land


class IsWalk(WalkCase):
    def check(self, cuts, cutting, one, other, right, steps):
        expected = is_right_walk(cuts, right, one, other, steps)
        self.assertIs(is_walk(cutting, one, other, steps), expected, steps)
        return expected

    def changed_walks(self, cuts, cutting, right, steps):
        """What becomes of a walk: cut short, a step twice, there and back, in another order."""
        for place in range(len(steps)):
            yield steps[:place]
            yield steps[place + 1:]
            yield steps[:place] + steps[place + 1:]
            yield steps[:place + 1] + steps[place:]
        yield steps + [(0, ((0, 1),) * cutting.dims(), right[0])]
        yield steps[::-1]
        yield steps + steps
        if len(steps) > 1:
            for place in range(len(steps) - 1):
                yield steps[:place] + [steps[place + 1], steps[place]] + steps[place + 2:]
                # Two cuts gone through in one step.
                yield steps[:place] + [steps[place][:2] + steps[place + 1][2:]] + steps[place + 2:]
                yield steps[:place] + [steps[place + 1]] + steps[place + 2:]
        if steps:
            before = other_sign(steps[-1][2], steps[-1][0])
            yield steps + [(steps[-1][0], steps[-1][1], before)]
            yield steps + [(steps[-1][0], steps[-1][1], before), steps[-1]]

    def changed_steps(self, cuts, cutting, right, step):
        """A step with another number, spot or land."""
        k, spot, land = step
        for other in list(range(len(cuts))) + [k - len(cuts), len(cuts), -1]:
            yield (other, spot, land)
        for place in range(len(spot)):
            moved = reckoning.as_fractions(spot)
            for by in (1, -1):
                parts = moved[:place] + (moved[place] + by,) + moved[place + 1:]
                yield (k, reckoning.as_spot(parts), land)
        for other in right + [(0,) * len(cuts), land[:k] + (0,) + land[k + 1:]]:
            yield (k, spot, other)

    def test_what_becomes_of_walks(self):
        for cuts, cutting, one, other, right in self.each_pair(reckoning.small_cuttings(), 12):
            steps = walk(cutting, one, other)
            for changed in self.changed_walks(cuts, cutting, right, steps):
                self.check(cuts, cutting, one, other, right, changed)
            for place, step in enumerate(steps):
                for changed in self.changed_steps(cuts, cutting, right, step):
                    self.check(cuts, cutting, one, other, right, steps[:place] + [changed] + steps[place + 1:])

    def test_ones_that_are_none(self):
        found = 0
        for cuts, cutting, one, other, right in self.each_pair(reckoning.small_cuttings(), 12):
            steps = walk(cutting, one, other)
            for wrong in [steps[:-1], steps[1:], steps + steps[-1:], steps + steps]:
                if steps:
                    self.assertIs(is_walk(cutting, one, other, wrong), False)
                    found += 1
        self.assertGreater(found, 100)

    def test_all_orders_and_other_right_spots(self):
        for dims, cuts in reckoning.small_cuttings():
            right = right_lands(dims, cuts)
            cutting = made(dims, cuts)
            faces = reckoning.all_faces(cuts, dims)
            one, other = right[0], right[-1]
            good = orders(right, one, other)
            self.assertTrue(good)
            for order in itertools.permutations(unlike(one, other)):
                steps = []
                here = one
                for k in order:
                    spot = faces.get(here[:k] + (0,) + here[k + 1:], (0,) * dims)
                    here = other_sign(here, k)
                    steps.append((k, reckoning.as_spot(spot), here))
                self.assertIs(is_walk(cutting, one, other, steps), order in good)

    def test_there_and_back_through_another_cut(self):
        # From the left of the square to its right, but round by way of the row above it.
        cutting = made(2, SQUARE)
        left, right = (-1, -1, 1, -1), (1, 1, 1, -1)
        steps = [
            (3, ((-1, 1), (1, 1)), (-1, -1, 1, 1)), (0, ((0, 1), (2, 1)), (1, -1, 1, 1)),
            (1, ((1, 1), (2, 1)), (1, 1, 1, 1)), (3, ((2, 1), (1, 1)), (1, 1, 1, -1)),
        ]
        self.assertIs(is_walk(cutting, left, right, steps), False)
        self.assertIs(is_walk(cutting, left, (1, 1, 1, 1), steps[:3]), True)
        self.assertIs(is_walk(cutting, left, (1, 1, 1, 1), [steps[0], steps[1]]), False)

    def test_through_no_wall(self):
        # At the spot where three lines meet all are gone through at once; one by one it is no step.
        cuts = [(1, 0, 0), (0, 1, 0), (1, 1, 0)]
        cutting = made(2, cuts)
        spot = ((0, 1), (0, 1))
        steps = [(0, spot, (1, -1, -1)), (1, spot, (1, 1, -1)), (2, spot, (1, 1, 1))]
        self.assertIs(is_walk(cutting, (-1, -1, -1), (1, 1, 1), steps), False)

    def test_anything(self):
        cutting = made(2, SQUARE)
        one, other = (-1, -1, 1, -1), (1, -1, 1, -1)
        good = walk(cutting, one, other)
        k, spot, land = good[0]
        self.assertEqual(k, 0)
        self.assertIs(is_walk(cutting, one, other, [(0, ((0, 1), (1, 2)), land)]), True)
        for thing in [0, 1, -1, BIG, tuple(good), {0: good[0]}, [list(good[0])], [good[0][:2]], [good[0] + (0,)]]:
            self.assertIs(is_walk(cutting, one, other, thing), False)
        for thing in things_of_no_number():
            for wrong in (
                thing, [thing], good + [thing], [thing] + good, [(thing, spot, land)], [(k, thing, land)],
                [(k, spot, thing)], [(k, (thing, thing), land)], [(k, spot, (thing,) * 4)],
                [(k, (spot[0], (1, thing)), land)], [(k, spot, land[:3] + (thing,))], [(k, spot, (thing,) + land[1:])],
            ):
                self.assertIs(is_walk(cutting, one, other, wrong), False)
        # Spots that are none, and lands of another form.
        for wrong in [
            (k, list(spot), land), (k, ((0, 2), (1, 2)), land), (k, ((0, 1), (2, 4)), land), (k, spot, list(land)),
            (False, spot, land), (k, spot, (True, -1, 1, -1)), (k, spot, land + (1,)), (k, spot + ((0, 1),), land),
        ]:
            self.assertIs(is_walk(cutting, one, other, [wrong]), False)
        # To itself no other list leads than the one without steps.
        for thing in [0, (), None, good] + things_of_no_number():
            if thing.__class__ is not list or thing:
                self.assertIs(is_walk(cutting, one, one, thing), False)


class HowMany(WalkCase):
    def test_all_orders(self):
        for cuts, cutting, one, other, right in self.each_pair(reckoning.small_cuttings(), 40):
            answer = how_many_walks(cutting, one, other)
            self.assertIs(type(answer), int)
            self.assertEqual(answer, len(orders(right, one, other)))

    def test_all_orders_of_five_to_seven_cuts(self):
        for cuts, cutting, one, other, right in self.each_pair(reckoning.full_cuttings(), 12):
            self.assertEqual(how_many_walks(cutting, one, other), len(orders(right, one, other)))

    def test_great_numbers(self):
        for cuts, cutting, one, other, right in self.each_pair(reckoning.great_cuttings(), 5):
            self.assertEqual(how_many_walks(cutting, one, other), len(orders(right, one, other)))

    def test_written_out(self):
        self.assertEqual(how_many_walks(made(2, SQUARE), (-1, -1, -1, -1), (1, 1, 1, 1)), 6)
        three = Cutting(3, [(1, 0, 0, 0), (0, 1, 0, 0), (0, 0, 1, 0)])
        self.assertEqual(how_many_walks(three, (-1, -1, -1), (1, 1, 1)), 6)
        self.assertEqual(how_many_walks(three, (-1, 1, -1), (1, 1, 1)), 2)
        star = made(2, THROUGH_ONE_SPOT[2])
        self.assertEqual(how_many_walks(star, lands(star)[0], lands(star)[-1]), 2)

    def test_to_itself_one(self):
        for dims, cuts in reckoning.small_cuttings():
            for land in right_lands(dims, cuts):
                self.assertEqual(how_many_walks(made(dims, cuts), land, land), 1)


class StepsOff(WalkCase):
    def test_each_land(self):
        for dims, cuts in reckoning.small_cuttings() + reckoning.great_cuttings() + reckoning.full_cuttings():
            right = right_lands(dims, cuts)
            cutting = made(dims, cuts)
            for land in right:
                answer = steps_off(cutting, land)
                apart = [len(unlike(land, other)) for other in right]
                self.assertIs(type(answer), list)
                self.assertEqual([type(many) for many in answer], [int] * len(answer))
                self.assertEqual(answer, [apart.count(many) for many in range(max(apart) + 1)])
                self.assertEqual(sum(answer), len(right))
                self.assertEqual(answer[0], 1)
                self.assertTrue(all(answer))

    def test_written_out(self):
        self.assertEqual(steps_off(made(2, SQUARE), (1, -1, 1, -1)), [1, 4, 4])
        self.assertEqual(steps_off(made(2, SQUARE), (1, 1, 1, 1)), [1, 2, 3, 2, 1])
        for dims in (1, 2, 3):
            self.assertEqual(steps_off(Cutting(dims, []), ()), [1])
            self.assertEqual(steps_off(made(dims, CUTS_OF_DIMS[dims][:1]), (1,)), [1, 1])


class Poles(WalkCase):
    def test_direction_and_lands(self):
        for dims, cuts in reckoning.small_cuttings() + reckoning.great_cuttings() + reckoning.full_cuttings():
            with self.subTest(dims=dims, cuts=cuts):
                cutting = made(dims, cuts)
                answer = poles(cutting)
                self.assertIs(type(answer), tuple)
                self.assertEqual([type(part) for part in answer], [tuple, tuple])
                direction, land = answer
                self.assertEqual([type(number) for number in direction], [int] * dims)
                self.assertTrue(any(direction))
                sums = [sum(number * step for number, step in zip(cut[:dims], direction)) for cut in cuts]
                self.assertNotIn(0, sums)
                self.assertEqual(land, tuple(reckoning.sign(number) for number in sums))
                right = right_lands(dims, cuts)
                self.assertIn(land, right)
                self.assertIn(tuple(-sign for sign in land), right)

    def test_cuts_that_go_along_the_first_directions(self):
        # Each of these goes along some of (1, 0, 0), (1, 1, 1), (1, 2, 4), .. and all are gone past.
        cuts = [(2 * k * (2 * k + 1), -4 * k - 1, 1, k) for k in range(7)]
        direction, land = poles(made(3, cuts))
        sums = [sum(number * step for number, step in zip(cut[:3], direction)) for cut in cuts]
        self.assertNotIn(0, sums)
        self.assertEqual(land, tuple(reckoning.sign(number) for number in sums))
        lines = [(k, -1, k) for k in range(7)]
        direction, land = poles(made(2, lines))
        self.assertNotIn(0, [line[0] * direction[0] + line[1] * direction[1] for line in lines])

    def test_of_no_cuts(self):
        for dims in (1, 2, 3):
            direction, land = poles(Cutting(dims, []))
            self.assertEqual((len(direction), land), (dims, ()))
            self.assertTrue(any(direction))

    def test_all_cuts_part_them(self):
        for dims, cuts in reckoning.small_cuttings():
            cutting = made(dims, cuts)
            land = poles(cutting)[1]
            behind = tuple(-sign for sign in land)
            self.assertEqual(parting(cutting, land, behind), list(range(len(cuts))))
            self.assertEqual(len(walk(cutting, land, behind)), len(cuts))


class So(WalkCase):
    """[74]."""

    def test_from_one_to_all_orders(self):
        for cuts, cutting, one, other, right in self.all_pairs():
            many = how_many_walks(cutting, one, other)
            self.assertTrue(1 <= many <= math.factorial(len(unlike(one, other))))

    def test_as_many_as_there_can_be(self):
        three = Cutting(3, [(1, 0, 0, 0), (0, 1, 0, 0), (0, 0, 1, 0)])
        self.assertEqual(how_many_walks(three, (1, -1, 1), (-1, 1, -1)), math.factorial(3))

    def test_each_land_has_a_wall_and_a_bounded_one_more_than_d(self):
        for dims, cuts in reckoning.small_cuttings() + reckoning.full_cuttings():
            if cuts:
                cutting = made(dims, cuts)
                bounded = bounded_lands(cutting)
                for land in lands(cutting):
                    self.assertGreater(len(walls(cutting, land)), dims if land in bounded else 0)

    def test_side_by_side_there_is_one_walk(self):
        for dims in (1, 2, 3):
            cutting = made(dims, SIDE_BY_SIDE[dims])
            for one, other in itertools.product(lands(cutting), repeat=2):
                self.assertEqual(how_many_walks(cutting, one, other), 1)


class Refused(unittest.TestCase):
    PAIR_QUESTIONS = [
        parting, walk, how_many_walks, lambda cutting, one, other: is_walk(cutting, one, other, []),
        lambda cutting, one, other: is_walk(cutting, one, other, None),
    ]

    def refused(self, kind, question, *handed_in):
        with self.assertRaises(kind) as caught:
            question(*handed_in)
        self.assertIs(type(caught.exception), kind)

    def test_no_signs(self):
        for dims in (1, 2, 3):
            for many in (0, 1, 2, 7):
                cutting = made(dims, CUTS_OF_DIMS[dims][:many])
                land = lands(cutting)[0]
                for thing in wrong_signs(many):
                    self.refused(NoSigns, steps_off, cutting, thing)
                    for question in self.PAIR_QUESTIONS:
                        self.refused(NoSigns, question, cutting, thing, land)
                        self.refused(NoSigns, question, cutting, land, thing)
                        self.refused(NoSigns, question, cutting, thing, thing)

    def test_no_land(self):
        for dims, cuts in reckoning.small_cuttings():
            cutting = made(dims, cuts)
            right = right_lands(dims, cuts)
            for signs in all_rows(len(cuts)):
                if signs not in right:
                    self.refused(NoLand, steps_off, cutting, signs)
                    for question in self.PAIR_QUESTIONS:
                        self.refused(NoLand, question, cutting, signs, right[0])
                        self.refused(NoLand, question, cutting, right[0], signs)

    def test_the_first_land_ahead_of_the_second(self):
        cutting = made(2, SQUARE)
        none = (-1, 1, 1, 1)
        for question in self.PAIR_QUESTIONS:
            for other in (None, (1, 1), none, (1, 1, 1, 2)):
                self.refused(NoSigns, question, cutting, None, other)
                self.refused(NoLand, question, cutting, none, other)
                self.refused(NoLand, question, cutting, (0, 0, 0, 0), other)


class Kept(unittest.TestCase):
    """[2] and [3]."""

    def test_lists_that_were_told_may_be_changed(self):
        cutting = made(2, SQUARE)
        one, other = (-1, -1, -1, -1), (1, 1, 1, 1)
        before = told(cutting)
        untouched = told(cutting)
        for question in (
            lambda: parting(cutting, one, other), lambda: walk(cutting, one, other), lambda: steps_off(cutting, one),
        ):
            for change in (list.clear, list.reverse, lambda row: row.append(None)):
                change(question())
                self.assertEqual(told(cutting), before)
        self.assertEqual(untouched, before)
        self.assertEqual(cutting.cuts(), SQUARE)

    def test_a_list_handed_in_is_as_it_was(self):
        cutting = made(2, SQUARE)
        one, other = (-1, -1, -1, -1), (1, 1, 1, 1)
        for steps in (walk(cutting, one, other), walk(cutting, one, other)[:-1], [None], [[]], []):
            before = repr(steps)
            is_walk(cutting, one, other, steps)
            self.assertEqual(repr(steps), before)

    def test_asked_again_also_behind_another_cutting(self):
        cuttings = [made(dims, CUTS_OF_DIMS[dims][:5]) for dims in (1, 2, 3)]
        before = [told(cutting) for cutting in cuttings]
        self.assertEqual([told(cutting) for cutting in reversed(cuttings)], before[::-1])
        self.assertEqual([told(made(dims, CUTS_OF_DIMS[dims][:5])) for dims in (1, 2, 3)], before)

    def test_behind_a_refusal(self):
        cutting = made(2, SQUARE)
        before = told(cutting)
        for question in Refused.PAIR_QUESTIONS:
            for signs in (None, (0, 0, 0, 0), (-1, 1, 1, 1)):
                for pair in ((signs, (1, 1, 1, 1)), ((1, 1, 1, 1), signs)):
                    with self.assertRaises(CutError):
                        question(cutting, *pair)
        self.assertEqual(told(cutting), before)


class Interface(unittest.TestCase):
    def test_names_and_arguments(self):
        for name, arguments in [
            ("parting", ["one", "other"]), ("walk", ["one", "other"]), ("is_walk", ["one", "other", "thing"]),
            ("how_many_walks", ["one", "other"]), ("steps_off", ["signs"]), ("poles", []),
        ]:
            self.assertEqual(list(inspect.signature(getattr(module, name)).parameters), ["cutting"] + arguments)


if __name__ == "__main__":
    unittest.main()
