"""Faces: [80], [81], and [2], [3] of them."""

import functools
import inspect
import itertools
import unittest
from fractions import Fraction

import reckoning
from anything import things_of_no_number
from cutlands import faces as module
from cutlands.cuts import Cutting
from cutlands.errors import CutError, NoFace, NoNumber, NoSigns
from cutlands.faces import at_edge, beside, between, face_counts, face_dims, faces
from cutlands.lands import lands
from cutlands.signs import held
from reckoning import BIG, CUTS_OF_DIMS, SIDE_BY_SIDE, all_rows, made, wrong_signs

SQUARE = [(1, 0, 0), (1, 0, 1), (0, 1, 0), (0, 1, 1)]
IN_SQUARE = (1, -1, 1, -1)


@functools.cache
def right_faces_of(dims, cuts):
    return reckoning.all_faces(list(cuts), dims)


def right_faces(dims, cuts):
    """All faces, each with a spot."""
    return right_faces_of(dims, tuple(cuts))


def known_cuttings():
    """Tuples (dims, cuts) of which all faces are reckoned by the tests."""
    told = reckoning.small_cuttings() + [(dims, cuts[:3]) for dims, cuts in reckoning.great_cuttings()]
    told.extend((dims, cuts) for dims, cuts in reckoning.full_cuttings() if dims < 3)
    told.append((3, reckoning.by_chance(12, 3, 6, 1)))
    told.append((3, reckoning.MIXED[3] + [(0, 0, 1, 0), (0, 0, 1, 1)]))
    return told


def right_dims(dims, cuts, face):
    """How many ways go along all cuts at which a face has 0."""
    return dims - reckoning.rank([cut[:dims] for cut, sign in zip(cuts, face) if sign == 0])


def told(cutting):
    """All that is told of a cutting's faces, to be held against what is told later."""
    found = faces(cutting)
    each = [
        (beside(cutting, one, other), at_edge(cutting, one, other), [
            between(cutting, one, other, k) for k in range(cutting.many()) if one[k] * other[k] == -1
        ])
        for one in found[::5] for other in found[::7]
    ]
    return (found, [face_dims(cutting, face) for face in found], face_counts(cutting), each)


class FaceCase(unittest.TestCase):
    def each_pair(self, most):
        """Pairs of faces, and all that is needed to ask of them."""
        for dims, cuts in known_cuttings():
            right = right_faces(dims, cuts)
            pairs = list(itertools.product(sorted(right), repeat=2))
            # Some pairs, spread over all.
            for one, other in pairs[::len(pairs) // most + 1]:
                with self.subTest(dims=dims, cuts=cuts, one=one, other=other):
                    yield cuts, made(dims, cuts), one, other, right


class Faces(FaceCase):
    def test_just_those_with_a_spot_in_order(self):
        for dims, cuts in known_cuttings():
            with self.subTest(dims=dims, cuts=cuts):
                answer = faces(made(dims, cuts))
                self.assertIs(type(answer), list)
                for face in answer:
                    self.assertIs(type(face), tuple)
                    self.assertEqual([type(sign) for sign in face], [int] * len(cuts))
                self.assertEqual(answer, sorted(right_faces(dims, cuts)))

    def test_just_those_that_are_held(self):
        for cuts in (reckoning.SPACE_CUTS, reckoning.by_chance(11, 3, 7, 9), reckoning.GREAT[3]):
            cutting = made(3, cuts)
            right = [signs for signs in all_rows(len(cuts)) if held(cutting, signs)[0] == "spot"]
            self.assertEqual(faces(cutting), right)

    def test_those_without_0_are_the_lands(self):
        for dims, cuts in known_cuttings() + reckoning.full_cuttings():
            cutting = made(dims, cuts)
            self.assertEqual([face for face in faces(cutting) if 0 not in face], lands(cutting))

    def test_written_out(self):
        for dims in (1, 2, 3):
            self.assertEqual(faces(Cutting(dims, [])), [()])
            self.assertEqual(faces(made(dims, CUTS_OF_DIMS[dims][:1])), [(-1,), (0,), (1,)])
        self.assertEqual(faces(Cutting(1, [(1, 0), (-1, -1)])), [(-1, 1), (0, 1), (1, -1), (1, 0), (1, 1)])
        self.assertEqual(len(faces(made(2, SQUARE))), 25)
        self.assertEqual(faces(Cutting(2, [(1, 0, 0), (1, 0, 1)])), [(-1, -1), (0, -1), (1, -1), (1, 0), (1, 1)])
        three = Cutting(2, [(1, 0, 0), (0, 1, 0), (1, 1, 0)])
        self.assertEqual(len(faces(three)), 13)
        self.assertIn((0, 0, 0), faces(three))
        self.assertNotIn((0, 0, 1), faces(three))


class Dims(FaceCase):
    def test_dims_of_each_face(self):
        for dims, cuts in known_cuttings():
            cutting = made(dims, cuts)
            for face in right_faces(dims, cuts):
                answer = face_dims(cutting, face)
                self.assertIs(type(answer), int)
                self.assertEqual(answer, right_dims(dims, cuts, face), (cuts, face))

    def test_written_out(self):
        cutting = made(2, SQUARE)
        for face, right in [(IN_SQUARE, 2), ((0, -1, 1, -1), 1), ((0, -1, 1, 0), 0), ((1, 1, 1, 0), 1)]:
            self.assertEqual(face_dims(cutting, face), right)
        # A cut that two others tell costs no dim.
        planes = Cutting(3, [(1, 0, 0, 0), (0, 1, 0, 0), (1, 1, 0, 0)])
        self.assertEqual(face_dims(planes, (0, 0, 0)), 1)
        for dims in (1, 2, 3):
            self.assertEqual(face_dims(Cutting(dims, []), ()), dims)


class Counts(FaceCase):
    def test_counts_of_each_dim(self):
        for dims, cuts in known_cuttings():
            right = [0] * (dims + 1)
            for face in right_faces(dims, cuts):
                right[right_dims(dims, cuts, face)] += 1
            answer = face_counts(made(dims, cuts))
            self.assertIs(type(answer), list)
            self.assertEqual([type(many) for many in answer], [int] * (dims + 1))
            self.assertEqual(answer, right)

    def test_with_every_second_one_taken_off(self):
        for dims, cuts in known_cuttings() + reckoning.full_cuttings() + reckoning.great_cuttings():
            answer = face_counts(made(dims, cuts))
            self.assertEqual(sum(answer[::2]) - sum(answer[1::2]), 1 if dims % 2 == 0 else -1)
            self.assertEqual(sum(answer), len(faces(made(dims, cuts))))

    def test_written_out(self):
        self.assertEqual(face_counts(made(2, SQUARE)), [4, 12, 9])
        self.assertEqual(face_counts(Cutting(2, [(1, 0, 0), (0, 1, 0), (1, 1, 1)])), [3, 9, 7])
        self.assertEqual(face_counts(Cutting(2, [(1, 0, 0), (0, 1, 0), (1, 1, 0)])), [1, 6, 6])
        self.assertEqual(face_counts(Cutting(3, [(1, 0, 0, 0), (0, 1, 0, 0), (0, 0, 1, 0)])), [1, 6, 12, 8])
        for dims in (1, 2, 3):
            self.assertEqual(face_counts(Cutting(dims, [])), [0] * dims + [1])
            many = len(SIDE_BY_SIDE[dims])
            self.assertEqual(face_counts(made(dims, SIDE_BY_SIDE[dims])), [0] * (dims - 1) + [many, many + 1])


def moved(start, end, share):
    """The spot so far on the straight way from a spot to another."""
    return tuple(mine + share * (theirs - mine) for mine, theirs in zip(start, end))


class Beside(FaceCase):
    def test_a_little_way_from_a_spot_to_another(self):
        for cuts, cutting, one, other, right in self.each_pair(120):
            start, end = right[one], right[other]
            shares = [Fraction(1)]
            for cut in cuts:
                here, there = reckoning.left_at(cut, start), reckoning.left_at(cut, end)
                if here * there < 0:
                    shares.append(Fraction(here) / (here - there))
            little = moved(start, end, min(shares) / 2)
            answer = beside(cutting, one, other)
            self.assertIs(type(answer), tuple)
            self.assertEqual([type(sign) for sign in answer], [int] * len(cuts))
            self.assertEqual(answer, reckoning.sides(cuts, little))

    def test_signs_both_ways_about(self):
        for cuts, cutting, one, other, right in self.each_pair(60):
            for first, second in ((one, other), (other, one)):
                signs = tuple(theirs if mine == 0 else mine for mine, theirs in zip(first, second))
                self.assertEqual(beside(cutting, first, second), signs)

    def test_written_out(self):
        cutting = made(2, SQUARE)
        self.assertEqual(beside(cutting, (0, -1, 0, -1), IN_SQUARE), IN_SQUARE)
        self.assertEqual(beside(cutting, IN_SQUARE, (0, -1, 0, -1)), IN_SQUARE)
        self.assertEqual(beside(cutting, (0, -1, 0, -1), (1, 1, 1, 0)), IN_SQUARE)
        self.assertEqual(beside(cutting, (1, 0, 1, 0), (0, -1, 1, 0)), (1, -1, 1, 0))
        self.assertEqual(beside(Cutting(1, []), (), ()), ())


class AtEdge(FaceCase):
    def test_signs_both_ways_about(self):
        found = 0
        for cuts, cutting, one, other, right in self.each_pair(150):
            for first, second in ((one, other), (other, one)):
                expected = all(mine == 0 or mine == theirs for mine, theirs in zip(first, second))
                self.assertIs(at_edge(cutting, first, second), expected)
                found += expected
        self.assertGreater(found, 100)

    def test_written_out(self):
        cutting = made(2, SQUARE)
        corner, edge = (0, -1, 0, -1), (0, -1, 1, -1)
        for one, other in [(corner, edge), (edge, IN_SQUARE), (corner, IN_SQUARE)]:
            self.assertIs(at_edge(cutting, one, other), True)
            self.assertIs(at_edge(cutting, other, one), False)
        self.assertIs(at_edge(cutting, edge, (-1, -1, 1, -1)), True)
        self.assertIs(at_edge(cutting, corner, (1, 1, 1, -1)), False)
        self.assertIs(at_edge(cutting, IN_SQUARE, (1, 1, 1, -1)), False)
        for face in faces(cutting):
            self.assertIs(at_edge(cutting, face, face), True)
        self.assertIs(at_edge(Cutting(3, []), (), ()), True)


class Between(FaceCase):
    def check_between(self, cutting, one, other, k, right):
        """Asks, and holds the answer against the document."""
        answer = between(cutting, one, other, k)
        self.assertIs(type(answer), tuple)
        self.assertEqual([type(sign) for sign in answer], [int] * cutting.many())
        self.assertIn(answer, right)
        self.assertEqual(answer[k], 0)
        first = beside(cutting, one, other)
        for number in range(cutting.many()):
            if one[number] * other[number] != -1:
                self.assertEqual(answer[number], first[number])
        return answer

    def test_each_cut_that_parts_both(self):
        found = 0
        for cuts, cutting, one, other, right in self.each_pair(80):
            for k in range(len(cuts)):
                if one[k] * other[k] == -1:
                    self.check_between(cutting, one, other, k, right)
                    found += 1
                else:
                    with self.assertRaises(NoNumber):
                        between(cutting, one, other, k)
        self.assertGreater(found, 500)

    def test_seven_planes(self):
        for cuts in (reckoning.SPACE_CUTS, reckoning.by_chance(11, 3, 7, 9)):
            cutting = made(3, cuts)
            right = faces(cutting)
            for one, other in list(itertools.product(right, repeat=2))[::997]:
                for k in range(7):
                    if one[k] * other[k] == -1:
                        self.check_between(cutting, one, other, k, right)

    def test_written_out(self):
        cutting = made(2, SQUARE)
        self.assertEqual(between(cutting, (-1, -1, 1, -1), IN_SQUARE, 0), (0, -1, 1, -1))
        self.assertEqual(between(cutting, IN_SQUARE, (-1, -1, 1, -1), 0), (0, -1, 1, -1))
        self.assertEqual(between(cutting, (-1, -1, 0, -1), (1, 1, 0, -1), 1), (1, 0, 0, -1))
        self.assertEqual(between(Cutting(1, [(2, 1)]), (1,), (-1,), 0), (0,))

    def test_no_number(self):
        for dims in (1, 2, 3):
            for many in (0, 1, 2, 7):
                cutting = made(dims, CUTS_OF_DIMS[dims][:many])
                one, other = lands(cutting)[0], lands(cutting)[-1]
                for thing in [-1, -many, -many - 1, many, many + 1, BIG, -BIG] + things_of_no_number():
                    if thing.__class__ is not int or thing < 0 or thing >= many:
                        with self.assertRaises(NoNumber):
                            between(cutting, one, other, thing)


class Refused(unittest.TestCase):
    PAIR_QUESTIONS = [
        beside, at_edge, lambda cutting, one, other: between(cutting, one, other, 0),
        lambda cutting, one, other: between(cutting, one, other, None),
    ]

    def refused(self, kind, question, *handed_in):
        with self.assertRaises(kind) as caught:
            question(*handed_in)
        self.assertIs(type(caught.exception), kind)

    def test_no_signs(self):
        for dims in (1, 2, 3):
            for many in (0, 1, 2, 7):
                cutting = made(dims, CUTS_OF_DIMS[dims][:many])
                face = faces(cutting)[0]
                for thing in wrong_signs(many):
                    self.refused(NoSigns, face_dims, cutting, thing)
                    for question in self.PAIR_QUESTIONS:
                        self.refused(NoSigns, question, cutting, thing, face)
                        self.refused(NoSigns, question, cutting, face, thing)
                        self.refused(NoSigns, question, cutting, thing, thing)

    def test_no_face(self):
        for dims, cuts in reckoning.small_cuttings():
            cutting = made(dims, cuts)
            right = right_faces(dims, cuts)
            face = sorted(right)[0]
            for signs in all_rows(len(cuts)):
                if signs not in right:
                    self.refused(NoFace, face_dims, cutting, signs)
                    for question in self.PAIR_QUESTIONS:
                        self.refused(NoFace, question, cutting, signs, face)
                        self.refused(NoFace, question, cutting, face, signs)

    def test_the_first_face_ahead_of_the_second(self):
        cutting = made(2, SQUARE)
        for question in self.PAIR_QUESTIONS:
            for other in (None, (1, 1), (0, 0, 1, 1), (1, 1, 1, 2)):
                self.refused(NoSigns, question, cutting, None, other)
                self.refused(NoFace, question, cutting, (0, 0, 1, 1), other)
                self.refused(NoFace, question, cutting, (-1, 1, 1, 1), other)


class Kept(unittest.TestCase):
    """[2] and [3]."""

    def test_lists_that_were_told_may_be_changed(self):
        cutting = made(2, SQUARE)
        before = told(cutting)
        untouched = told(cutting)
        for question in (faces, face_counts):
            for change in (list.clear, list.reverse, lambda row: row.append(None)):
                change(question(cutting))
                self.assertEqual(told(cutting), before)
        self.assertEqual(untouched, before)
        self.assertEqual(cutting.cuts(), SQUARE)

    def test_asked_again_also_behind_another_cutting(self):
        cuttings = [made(dims, CUTS_OF_DIMS[dims][:5]) for dims in (1, 2, 3)]
        before = [told(cutting) for cutting in cuttings]
        self.assertEqual([told(cutting) for cutting in reversed(cuttings)], before[::-1])
        self.assertEqual([told(made(dims, CUTS_OF_DIMS[dims][:5])) for dims in (1, 2, 3)], before)

    def test_behind_a_refusal(self):
        cutting = made(2, SQUARE)
        before = told(cutting)
        for question in Refused.PAIR_QUESTIONS:
            for signs in (None, (0, 0, 0, 0), (-1, 1, 1, 1)):
                for pair in ((signs, (1, 1, 1, 1)), ((1, 1, 1, 1), signs)):
                    with self.assertRaises(CutError):
                        question(cutting, *pair)
        with self.assertRaises(CutError):
            between(cutting, (1, 1, 1, 1), (1, 1, 1, 1), 0)
        self.assertEqual(told(cutting), before)


class Interface(unittest.TestCase):
    def test_names_and_arguments(self):
        for name, arguments in [
            ("faces", []), ("face_dims", ["signs"]), ("face_counts", []), ("beside", ["one", "other"]),
            ("at_edge", ["one", "other"]), ("between", ["one", "other", "k"]),
        ]:
            self.assertEqual(list(inspect.signature(getattr(module, name)).parameters), ["cutting"] + arguments)


if __name__ == "__main__":
    unittest.main()
