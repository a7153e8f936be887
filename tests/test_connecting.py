import itertools
import math
import random
import unittest
from fractions import Fraction

from helper import FAR, far_rows, pairs_of_rows, sample_rows, swept, with_offsets
from scooprow.advance import advance
from scooprow.connecting import connect, fewest, least_number
from scooprow.errors import BadRow
from scooprow.rows import Row
from scooprow.trains import row_of, trains


def offsets(row):
    """For each length up to 41 the ascending offsets of the trains of this length."""
    found = trains(row)
    return {length: sorted(offset for other, offset in found if other == length) for length in range(1, 42)}


def moves(row, other):
    """For each length up to 41 the moves; None where the numbers of trains differ."""
    before, after = offsets(row), offsets(other)
    return {length: [new - old for old, new in zip(before[length], after[length])]
            if len(before[length]) == len(after[length]) else None for length in before}


def slow_unlikeness(row, other):
    """The first obstruction of the kinds "length" and "apart", by the definition."""
    found = moves(row, other)
    for length in found:
        if found[length] is None:
            return ("length", length)
    for length in found:
        for i, move in enumerate(found[length]):
            if move != found[length][0]:
                return ("apart", length, i)
    return None


def points(row, other):
    """The pairs (k, d(k)) for 0 and the lengths that occur, if the moves of each length are equal."""
    return [(0, 0)] + [(length, found[0]) for length, found in moves(row, other).items() if found]


def slow_obstruction(row, other):
    """The first obstruction without inverse sweeps, by the definition; None if there is none."""
    found = slow_unlikeness(row, other)
    if found:
        return found
    known = points(row, other)
    for (a, at_a), (b, at_b), (c, at_c) in zip(known, known[1:], known[2:]):
        if math.floor(Fraction(at_b - at_a, b - a)) < math.ceil(Fraction(at_c - at_b, c - b)):
            return ("steep", a, b)
    if len(known) > 1 and known[-1][1] < known[-2][1]:
        return ("falling", known[-2][0], known[-1][0])
    return None


def reachable(lengths, most):
    """From the distances that up to so many sweeps of each capacity reach to the least sum of counts."""
    found = {}
    for numbers in itertools.product(range(most + 1), repeat=max(lengths)):
        reached = tuple(sum(many * min(c + 1, length) for c, many in enumerate(numbers)) for length in lengths)
        found[reached] = min(sum(numbers), found.get(reached, sum(numbers)))
    return found


def checked_pairs():
    source = random.Random(70)
    return list(pairs_of_rows(source, sample_rows() + far_rows()[:-1]))


class ConnectTest(unittest.TestCase):
    def check_counts(self, row, other, answer):
        self.assertEqual((type(answer), len(answer), answer[0], type(answer[1])), (tuple, 2, "sweeps", dict))
        counts = answer[1]
        self.assertEqual(advance(row, counts), other)
        self.assertEqual(list(counts), sorted(counts))
        for capacity, many in counts.items():
            self.assertEqual((type(capacity), type(many)), (int, int))
            self.assertTrue(many != 0 and 1 <= capacity <= 99)

    def test_small_rows(self):
        one, two = Row([(0, 1)]), Row([(0, 1), (1, 1)])
        self.assertEqual(connect(one, Row([(4, 1)])), ("sweeps", {1: 4}))
        self.assertEqual(connect(one, Row([(-4, 1)])), ("sweeps", {1: -4}))
        self.assertEqual(connect(one, Row([(-4, 1)]), backward=False), ("falling", 0, 1))
        self.assertEqual(connect(two, Row([(5, 1), (6, 1)])), ("sweeps", {1: 1, 2: 2}))
        self.assertEqual(connect(one, two), ("length", 1))
        self.assertEqual(connect(other=one, row=two, backward=True), ("length", 1))
        self.assertEqual(connect(Row([(0, 1), (1, 1), (5, 1), (6, 1)]), Row([(0, 1), (1, 1), (6, 1), (7, 1)])),
                         ("apart", 2, 1))

    def test_rows_without_items(self):
        for capacities in ([], [(0, 9), (5, 2)]):
            empty = Row((), capacities)
            for backward in (True, False):
                self.assertEqual(connect(empty, empty, backward=backward), ("sweeps", {}))
            self.assertEqual(connect(empty, Row([(7, 1)], capacities)), ("length", 1))
            self.assertEqual(connect(Row([(7, 1), (8, 1)], capacities), empty, backward=False), ("length", 2))

    def test_with_inverse_sweeps(self):
        kinds = set()
        for row, other in checked_pairs():
            answer = connect(row, other)
            kinds.add(answer[0])
            expected = slow_unlikeness(row, other)
            if expected:
                self.assertEqual(repr(answer), repr(expected))
            else:
                self.check_counts(row, other, answer)
        self.assertEqual(kinds, {"sweeps", "length", "apart"})

    def test_without_inverse_sweeps(self):
        kinds = set()
        for row, other in checked_pairs():
            answer = connect(row, other, backward=False)
            kinds.add(answer[0])
            expected = slow_obstruction(row, other)
            if expected:
                self.assertEqual(repr(answer), repr(expected))
            else:
                self.check_counts(row, other, answer)
                self.assertTrue(all(many > 0 for many in answer[1].values()))
        self.assertEqual(kinds, {"sweeps", "length", "apart", "steep", "falling"})

    def test_as_single_sweeps(self):
        source = random.Random(71)
        for row in sample_rows()[::3] + far_rows()[:2]:
            counts = {capacity: source.randint(-3, 3) for capacity in (1, 2, 4, 9)}
            other = row
            for capacity, many in counts.items():
                other = swept(other, capacity, many)
            now = row
            for capacity, many in connect(row, other)[1].items():
                self.assertLess(abs(many), 1000)
                now = swept(now, capacity, many)
            self.assertEqual(now, other)

    def test_counts_exactly_where_a_search_finds_some(self):
        for lengths in ([1], [2], [1, 2], [3], [1, 3], [2, 3], [1, 2, 3], [2, 4], [1, 4]):
            found = reachable(lengths, 6 if max(lengths) < 4 else 4)
            row = row_of([(length, 0) for length in lengths])
            for far in itertools.product(range(-2, 5), repeat=len(lengths)):
                other = row_of(list(zip(lengths, far)))
                answer = connect(row, other, backward=False)
                self.assertEqual(answer[0] == "sweeps", far in found, (lengths, far))
                self.assertEqual(least_number(row, other), found.get(far))
                if far in found:
                    least = fewest(row, other)[1]
                    self.assertEqual(sum(least.values()), found[far])
                    self.check_counts(row, other, fewest(row, other))

    def test_many_trains_of_one_length(self):
        row = row_of([(1, 3 * k) for k in range(40)])
        self.assertEqual(connect(row, advance(row, {1: FAR})), ("sweeps", {1: FAR}))
        for i in (1, 2, 20, 38, 39):
            other = with_offsets(row, lambda k, length, offset: offset + (k >= i))
            self.assertEqual(connect(row, other), ("apart", 1, i))
            self.assertEqual(connect(other, row, backward=False), ("apart", 1, i))
        other = with_offsets(row, lambda k, length, offset: offset + (k == 0))
        self.assertEqual(connect(row, other), ("apart", 1, 1))
        row = row_of([(1, 5)] * 20 + [(4, 7)] * 5)
        other = row_of([(1, 9)] * 20 + [(4, -3)] * 5)
        self.check_counts(row, other, connect(row, other))
        self.assertEqual(connect(row, row_of([(1, 9)] * 20 + [(4, -3)] * 4 + [(4, -2)])), ("apart", 4, 4))

    def test_offsets_are_paired_in_ascending_order(self):
        row, other = row_of([(2, 10), (2, -10)]), row_of([(2, -9), (2, 11)])
        self.assertEqual(advance(row, connect(row, other)[1]), other)
        self.assertEqual(connect(row, row_of([(2, 0), (2, 20)]))[0], "sweeps")

    def test_length_comes_before_apart(self):
        row = row_of([(1, 0), (1, 1), (3, 0)])
        self.assertEqual(connect(row, row_of([(1, 0), (1, 2), (2, 0)])), ("length", 2))
        self.assertEqual(connect(row, row_of([(1, 0), (1, 2), (3, 0), (4, 0)])), ("length", 4))
        self.assertEqual(connect(row, row_of([(3, 0)])), ("length", 1))
        self.assertEqual(connect(row_of([(2, 0), (2, 0), (3, 0), (3, 0)]), row_of([(2, 0), (2, 1), (3, 0), (3, 1)])),
                         ("apart", 2, 1))

    def test_the_least_length_comes_first_in_any_order_of_the_rows(self):
        row, other = row_of([(7, 0), (7, 0), (2, 0)]), row_of([(7, 0), (5, 0)])
        self.assertEqual((connect(row, other), connect(other, row)), (("length", 2), ("length", 2)))
        row, other = row_of([(1, 0), (5, 0)]), row_of([(1, 0), (3, 0)])
        self.assertEqual((connect(row, other), connect(other, row)), (("length", 3), ("length", 3)))

    def test_steep_and_falling(self):
        def far(*pairs):
            row = row_of([(length, 0) for length, _ in pairs])
            return connect(row, row_of(list(pairs)), backward=False)

        self.assertEqual(far((1, 1), (2, 3)), ("steep", 0, 1))
        self.assertEqual(far((2, 3), (3, 5)), ("steep", 0, 2))
        self.assertEqual(far((2, 3), (3, 4)), ("sweeps", {1: 1, 3: 1}))
        self.assertEqual(far((2, 3), (4, 6)), ("steep", 0, 2))
        self.assertEqual(far((2, 4), (4, 7)), ("sweeps", {3: 1, 4: 1}))
        self.assertEqual(far((1, 5), (2, 6), (3, 9)), ("steep", 1, 2))
        self.assertEqual(far((1, 1), (2, 3), (3, 9)), ("steep", 0, 1))
        self.assertEqual(far((1, 5), (2, 4), (3, 4)), ("steep", 1, 2))
        self.assertEqual(far((1, 5), (2, 4), (3, 3)), ("falling", 2, 3))
        self.assertEqual(far((1, 5), (2, 4)), ("falling", 1, 2))
        self.assertEqual(far((3, -1)), ("falling", 0, 3))
        self.assertEqual(far((3, 0)), ("sweeps", {}))
        self.assertEqual(far((1, -FAR), (2, FAR)), ("steep", 0, 1))
        self.assertEqual(far((1, 5), (3, 5)), ("sweeps", {1: 5}))

    def test_at_most_31_digits(self):
        for lengths in ([1], [1, 2], [1, 2, 3], [1, 2, 3, 4], [2, 3, 5], [1, 3, 4, 7], [1, 2, 4, 8]):
            for signs in itertools.product((-1, 1), repeat=len(lengths)):
                row = row_of([(length, -sign * FAR) for length, sign in zip(lengths, signs)])
                other = row_of([(length, sign * FAR) for length, sign in zip(lengths, signs)])
                answer = connect(row, other)
                self.check_counts(row, other, answer)
                self.assertLess(max(abs(many) for many in answer[1].values()), 10 ** 31)

    def test_new_answers_each_time(self):
        row, other = Row([(0, 1), (1, 1)]), Row([(5, 1), (6, 1)])
        first = connect(row, other)
        again = dict(first[1])
        first[1].clear()
        self.assertEqual(connect(row, other), ("sweeps", again))
        self.assertEqual((row, other), (Row([(0, 1), (1, 1)]), Row([(5, 1), (6, 1)])))


class FewestTest(unittest.TestCase):
    def test_agrees_with_connect(self):
        for row, other in checked_pairs():
            answer, plain = fewest(row, other), connect(row, other, backward=False)
            self.assertEqual(answer[0], plain[0])
            if answer[0] != "sweeps":
                self.assertEqual((answer, least_number(row, other)), (plain, None))
                continue
            self.assertEqual(advance(row, answer[1]), other)
            self.assertTrue(all(many > 0 for many in answer[1].values()))
            least = least_number(row, other)
            self.assertEqual(repr(least), repr(sum(answer[1].values())))
            self.assertLessEqual(least, sum(plain[1].values()))
            known = points(row, other)
            first = known[1] if len(known) > 1 else (1, 0)
            self.assertEqual(least, math.ceil(Fraction(first[1], first[0])))

    def test_small_numbers(self):
        two = Row([(0, 1), (1, 1)])
        self.assertEqual(least_number(other=Row([(5, 1), (6, 1)]), row=two), 3)
        self.assertEqual(sum(fewest(other=Row([(5, 1), (6, 1)]), row=two)[1].values()), 3)
        self.assertEqual((least_number(two, two), fewest(two, two)), (0, ("sweeps", {})))
        self.assertEqual((least_number(Row(), Row()), fewest(Row(), Row())), (0, ("sweeps", {})))
        self.assertIsNone(least_number(Row([(1, 1)]), Row([(0, 1)])))
        self.assertIsNone(least_number(two, Row([(0, 1)])))
        self.assertEqual(least_number(Row([(-FAR, 1)]), Row([(FAR, 1)])), 2 * FAR)


class RefusedTest(unittest.TestCase):
    def test_unlike_capacities(self):
        rows = [Row(), Row((), [(0, 2)]), Row((), [(0, 3)]), Row((), [(1, 2)]), Row([(0, 1)], [(0, 2), (1, 2)]),
                Row([(5, 1)], [(5, 3)])]
        for one, other in itertools.permutations(rows, 2):
            for action in (connect, fewest, least_number):
                with self.assertRaises(BadRow) as caught:
                    action(one, other)
                self.assertEqual(caught.exception.field, "capacities")
            with self.assertRaises(BadRow):
                connect(one, other, backward=False)

    def test_backward_by_name_only(self):
        self.assertRaises(TypeError, lambda: connect(Row(), Row(), False))
        self.assertRaises(TypeError, lambda: fewest(Row(), Row(), backward=True))
        self.assertRaises(TypeError, lambda: least_number(Row(), Row(), backward=True))


if __name__ == "__main__":
    unittest.main()
