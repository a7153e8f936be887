import math
import random
import unittest
from fractions import Fraction

from helper import FAR, any_values, changes, far_rows, is_integer, pairs_of_rows, sample_rows
from scooprow.advance import advance
from scooprow.certificates import certificate, is_certificate
from scooprow.connecting import connect
from scooprow.errors import BadRow
from scooprow.exchanges import plain_form
from scooprow.rows import Row
from scooprow.trains import row_of
from test_connecting import moves, points, slow_unlikeness
from test_trains import slow_cut

BIG = 10 ** 3999


def slow_cuts(row):
    """The pairs (items, offsets) by the definition of a cut."""
    rest = plain_form(row)
    found = []
    while rest.contents:
        items = rest.contents
        rest, removed = slow_cut(rest)
        found.append((items, tuple(sorted(removed))))
    return tuple(found)


def are_counts(value, backward):
    if type(value) is not tuple or any(type(part) is not tuple or len(part) != 2 for part in value):
        return False
    if any(not is_integer(number) for part in value for number in part):
        return False
    capacities = [part[0] for part in value]
    if capacities != sorted(set(capacities)) or any(not 1 <= capacity <= 99 for capacity in capacities):
        return False
    return all(many > 0 or (many < 0 and backward) for _, many in value)


def is_true(row, other, answer, backward):
    """Whether an answer is true, by the definition."""
    if type(answer) is not tuple or not answer or type(answer[0]) is not str:
        return False
    word, parts = answer[0], answer[1:]
    if word == "sweeps":
        return len(parts) == 1 and are_counts(parts[0], backward) and advance(row, dict(parts[0])) == other
    if any(not is_integer(part) for part in parts):
        return False
    found = moves(row, other)
    if word == "length":
        return len(parts) == 1 and found.get(parts[0], []) is None
    if len(parts) != 2:
        return False
    if word == "apart":
        moved = found.get(parts[0]) or []
        return 0 <= parts[1] < len(moved) and moved[parts[1]] != moved[0]
    if backward or slow_unlikeness(row, other):
        return False
    known = points(row, other)
    falling = [(a, b) for (a, at_a), (b, at_b) in zip(known, known[1:]) if at_b < at_a]
    steep = [(a, b) for (a, at_a), (b, at_b), (c, at_c) in zip(known, known[1:], known[2:])
             if math.floor(Fraction(at_b - at_a, b - a)) < math.ceil(Fraction(at_c - at_b, c - b))]
    return parts in {"falling": falling, "steep": steep}.get(word, [])


def some_pairs(step):
    source = random.Random(72)
    return list(pairs_of_rows(source, sample_rows()[::step] + far_rows()[:-1:2]))


def small_pairs():
    """Rows with few items and answers of every kind."""
    two = Row([(0, 1), (1, 1)])
    return [
        (Row(), Row()), (Row(), Row([(0, 1)])), (two, two), (two, Row([(5, 1), (6, 1)])),
        (Row([(0, 2), (1, 1)], [(0, 3)]), Row([(0, 1), (1, 1), (FAR, 1)], [(0, 3)])),
        (Row([(0, 1), (5, 1)]), Row([(1, 1), (7, 1)])), (Row([(0, 1), (9, 1), (10, 1)]), Row([(0, 1), (8, 1), (9, 1)])),
        (row_of([(1, 0), (3, 0)]), row_of([(1, 1), (3, 5)])), (row_of([(1, 0), (2, 0)]), row_of([(1, 5), (2, 6)])),
    ]


def other_pairs():
    """Rows with several obstructions at once."""
    return [
        (row_of([(1, 0), (2, 0), (3, 0), (4, 0)]), row_of([(1, 1), (2, 3), (3, 6), (4, 5)])),
        (row_of([(1, 0), (2, 0), (3, 0), (4, 0)]), row_of([(1, 5), (2, 4), (3, 9), (4, -5)])),
        (row_of([(1, 0), (3, 0)]), row_of([(1, -2), (3, -9)])),
        (row_of([(1, 0)] * 4 + [(2, 0)] * 3), row_of([(1, 0), (1, 1), (1, 1), (1, 2), (2, 0), (2, 4), (2, 4)])),
        (row_of([(1, 0), (1, 0), (2, 0), (3, 5)]), row_of([(1, 0), (1, 1), (4, 0), (3, 5)])),
        (row_of([(2, 0), (2, 0), (5, 3)], [(0, 2)]), row_of([(2, FAR), (2, FAR), (5, FAR)], [(0, 2)])),
        (Row([(1, 1)]), Row()), (Row(), Row()), (Row([(0, 1)]), Row([(0, 1)])),
    ]


class CertificateTest(unittest.TestCase):
    def test_small_rows(self):
        one, two = Row([(0, 1)]), Row([(0, 1), (1, 1)])
        self.assertEqual(certificate(one, Row([(4, 1)])), (
            ("sweeps", ((1, 4),)), ((((0, 1),), (0,)),), ((((4, 1),), (4,)),)))
        self.assertEqual(certificate(other=one, row=two, backward=False), (
            ("length", 1), ((((0, 1), (1, 1)), (1,)), (((0, 1),), (0,))), ((((0, 1),), (0,)),)))
        self.assertEqual(certificate(Row(), Row((), ())), (("sweeps", ()), (), ()))
        self.assertEqual(certificate(one, Row([(-1, 1)]), backward=False)[0], ("falling", 0, 1))

    def test_wide_boxes_are_shifted_out(self):
        row = Row([(0, 2), (1, 1)], [(0, 3)])
        answer, cuts, other_cuts = certificate(row, row)
        self.assertEqual(cuts[0], (((-1, 1), (0, 1), (1, 1)), (1,)))
        self.assertEqual((answer, cuts, len(cuts)), (("sweeps", ()), other_cuts, 3))
        empty = Row((), [(0, 3)])
        self.assertEqual(certificate(empty, empty), (("sweeps", ()), (), ()))

    def test_equal_offsets_as_often_as_they_occur(self):
        row = Row([(0, 1), (2, 1), (4, 1), (9, 1)])
        self.assertEqual(certificate(row, row)[1][0], (row.contents, (0, 0, 0, 3)))

    def test_as_connect_with_cuts(self):
        kinds = set()
        for row, other in some_pairs(3) + other_pairs():
            for backward in (True, False):
                value = certificate(row, other, backward=backward)
                expected = connect(row, other, backward=backward)
                kinds.add(expected[0])
                if expected[0] == "sweeps":
                    expected = ("sweeps", tuple(sorted(expected[1].items())))
                self.assertEqual(repr(value), repr((expected, slow_cuts(row), slow_cuts(other))))
                self.assertIs(is_certificate(row, other, value, backward=backward), True)
        self.assertEqual(kinds, {"sweeps", "length", "apart", "steep", "falling"})

    def test_backward_is_true_if_it_is_left_out(self):
        for row, other in some_pairs(5):
            self.assertEqual(certificate(row, other), certificate(row, other, backward=True))
            value = certificate(row, other)
            self.assertIs(is_certificate(row, other, value), True)


class IsCertificateTest(unittest.TestCase):
    def check_answers(self, row, other, answers):
        """That each answer, with the right cuts, is accepted exactly if it is true; how many are."""
        cuts = (slow_cuts(row), slow_cuts(other))
        accepted = 0
        for answer in answers:
            for backward in (True, False):
                found = is_certificate(row, other, (answer, *cuts), backward=backward)
                self.assertIs(found, is_true(row, other, answer, backward), (answer, backward))
                accepted += found
        return accepted

    def test_obstructions_with_other_numbers(self):
        numbers = [-1, 0, 1, 2, 3, 4, True, BIG]
        for word, least in (("length", 4), ("apart", 10), ("steep", 3), ("falling", 5), ("barred", 0)):
            accepted = 0
            for row, other in other_pairs():
                answers = [(word, a, b) for a in numbers for b in numbers]
                answers.extend([(word, a) for a in [*numbers, False, None, "1", -BIG, 5, FAR]])
                answers.extend([(word,), (word, 1, 2, 3), [word, 1, 1], [word, 2], (word.upper(), 1, 1)])
                accepted += self.check_answers(row, other, answers)
            self.assertGreaterEqual(accepted, least, word)

    def test_not_only_the_first_obstruction(self):
        row, other = other_pairs()[0]
        cuts = (slow_cuts(row), slow_cuts(other))
        for answer in (("steep", 0, 1), ("steep", 1, 2), ("falling", 3, 4)):
            self.assertTrue(is_certificate(row, other, (answer, *cuts), backward=False))
            self.assertFalse(is_certificate(row, other, (answer, *cuts)))
        row, other = other_pairs()[1]
        cuts = (slow_cuts(row), slow_cuts(other))
        for answer in (("falling", 1, 2), ("falling", 3, 4), ("steep", 1, 2)):
            self.assertTrue(is_certificate(row, other, (answer, *cuts), backward=False))
        row, other = other_pairs()[3]
        cuts = (slow_cuts(row), slow_cuts(other))
        for answer in (("apart", 1, 1), ("apart", 1, 2), ("apart", 1, 3), ("apart", 2, 1), ("apart", 2, 2)):
            self.assertTrue(is_certificate(row, other, (answer, *cuts)))
        row, other = other_pairs()[4]
        cuts = (slow_cuts(row), slow_cuts(other))
        for answer in (("length", 2), ("length", 4), ("apart", 1, 1)):
            self.assertTrue(is_certificate(row, other, (answer, *cuts), backward=False))
        self.assertFalse(is_certificate(row, other, (("length", 3), *cuts), backward=False))

    def test_apart_although_other_numbers_differ(self):
        row, other = row_of([(1, 0), (3, 0), (3, 0)]), row_of([(3, 0), (3, 1)])
        self.assertEqual(self.check_answers(row, other, [("apart", 3, 1)]), 2)
        row, other = row_of([(3, 0), (3, 0)]), row_of([(3, 0), (3, 1), (3, 2)])
        self.assertEqual(self.check_answers(row, other, [("apart", 3, 1)]), 0)

    def test_other_counts(self):
        row = Row([(0, 1), (1, 1), (3, 1)])
        other = advance(row, {1: 4, 2: 5})
        self.assertEqual(6, self.check_answers(row, other, [("sweeps", counts) for counts in (
            ((1, 4), (2, 5)), ((1, 4), (2, 2), (9, 3)), ((1, 4), (2, -5), (98, 7), (99, 3)),
            ((1, 4), (2, 5 - BIG), (3, BIG)), ((2, 5), (1, 4)), ((1, 4), (1, 0), (2, 5)),
            ((1, 4), (2, 5), (3, 0)), ((1, 4), (2, 5), (100, 1), (99, -1)), ((1, 2), (1, 2), (2, 5)),
            ((1, 4), (2, 4), (2, 1)), ((0, 3), (1, 4), (2, 5)), ((-1, 3), (1, 4), (2, 5)),
            [(1, 4), (2, 5)], {1: 4, 2: 5}, ((1, 4), [2, 5]), ((1, 4), (2, 5, 0)), ((1, 4),),
            ((1, 5), (2, 5)), ((True, 4), (2, 5)), (), ((1, 4), (2, 5), (3, True), (4, -1)),
            ((1, 4), (2, 4), (3, True)))]))
        value = certificate(row, other)[1:]
        self.assertTrue(is_certificate(row, other, (("sweeps", ((1, 4), (2, 2), (9, 3))), *value), backward=False))
        self.assertTrue(is_certificate(row, other, (("sweeps", ((1, 4), (2, 5 - BIG), (3, BIG))), *value)))

    def test_rows_without_items_allow_all_counts(self):
        for capacities in ((), [(4, 2)]):
            empty = Row((), capacities)
            self.assertEqual(5, self.check_answers(empty, empty, [("sweeps", counts) for counts in (
                (), ((1, 5),), ((1, -5), (99, FAR)), ((1, 0),), ((100, 1),), ((2, 1), (1, 1)))]))
            self.assertTrue(is_certificate(empty, empty, (("sweeps", ((7, 3),)), (), ())))
            self.assertFalse(is_certificate(empty, empty, (("sweeps", ((7, -3),)), (), ()), backward=False))

    def test_one_change(self):
        for row, other in small_pairs():
            for backward in (True, False):
                value = certificate(row, other, backward=backward)
                for changed in changes(value):
                    true = repr(changed) == repr(value) or (
                        type(changed) is tuple and repr(changed[1:]) == repr(value[1:])
                        and is_true(row, other, changed[0], backward))
                    self.assertIs(is_certificate(row, other, changed, backward=backward), true, changed)

    def test_cuts_of_the_other_row(self):
        row, other = Row([(0, 1), (1, 1)]), Row([(3, 1), (4, 1)])
        answer, cuts, other_cuts = certificate(row, other)
        self.assertTrue(is_certificate(row, other, (answer, cuts, other_cuts)))
        for wrong in ((cuts, cuts), (other_cuts, other_cuts), (other_cuts, cuts), (cuts, ()), ((), other_cuts),
                      (cuts[:1], other_cuts), (cuts + (((), ()),), other_cuts), (cuts[1:], other_cuts)):
            self.assertFalse(is_certificate(row, other, (answer, *wrong)))

    def test_any_value(self):
        for row, other in ((Row(), Row()), (Row([(0, 1)]), Row([(1, 1)])), (Row(), Row([(0, 1)]))):
            right = certificate(row, other)
            for value in any_values():
                self.assertIs(is_certificate(row, other, value), False)
                self.assertIs(is_certificate(row=row, other=other, value=(value, value, value)), False)
                for place in range(3):
                    if repr(right[place]) != repr(value):
                        wrong = right[:place] + (value,) + right[place + 1:]
                        self.assertIs(is_certificate(row, other, wrong, backward=False), False)
                self.check_answers(row, other, [
                    ("sweeps", (value,)), (value, 1), ("length", value), ("apart", value, 1), ("apart", 1, value),
                    ("steep", value, 1), ("falling", 0, value), (value,), value, ("sweeps", value)])

    def test_unlike_capacities(self):
        for one, other in ((Row(), Row((), [(0, 2)])), (Row([(1, 1)], [(0, 2)]), Row([(1, 1)], [(0, 3)]))):
            for backward in (True, False):
                with self.assertRaises(BadRow) as caught:
                    certificate(one, other, backward=backward)
                self.assertEqual(caught.exception.field, "capacities")
                for value in any_values()[::5] + [(("sweeps", ()), (), ())]:
                    with self.assertRaises(BadRow) as caught:
                        is_certificate(one, other, value, backward=backward)
                    self.assertEqual(caught.exception.field, "capacities")

    def test_backward_by_name_only(self):
        self.assertRaises(TypeError, lambda: certificate(Row(), Row(), False))
        self.assertRaises(TypeError, lambda: is_certificate(Row(), Row(), (), False))


if __name__ == "__main__":
    unittest.main()
