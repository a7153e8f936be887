import itertools
import random
import unittest
from fractions import Fraction

from helper import FAR, any_values, changes, far_rows, is_integer, pairs_of_rows, sample_rows, swept
from scooprow.advance import advance
from scooprow.carriers import is_bar, led_by, loops
from scooprow.errors import BadRow, BadSet
from scooprow.rows import Row
from scooprow.trains import row_of, trains
from test_connecting import points, slow_unlikeness

GOOD_SETS = [[1], [99], [1, 99], (3, 5), [2, 4, 6], list(range(1, 9)), (1, 2, 3, 5, 8, 13, 21, 34), [40, 41]]
BAD_SETS = [
    [], (), [0], [100], [-1], [1, 1], [2, 1], [1, 3, 2], [1, 2, 100], [0, 1], list(range(1, 10)), tuple(range(1, 10)),
    [True], [True, 2], [1, None], ["1"], [[1]], [(1, 2)], "12", {1: 2}, 5, [10 ** 3999], [Row()], [1, 2, 2],
]


def no_sets():
    return BAD_SETS + any_values()


def lengths_of(row):
    return sorted({length for length, _ in trains(row)})


def is_right_bar(row, other, capacities, value):
    """Whether a value bars these capacities, by the definition."""
    if slow_unlikeness(row, other):
        return False
    if type(value) is not tuple or len(value) != 3 or type(value[0]) is not str or value[0] != "barred":
        return False
    _, q, weights = value
    if not is_integer(q) or q < 2 or type(weights) is not tuple:
        return False
    for part in weights:
        if type(part) is not tuple or len(part) != 2 or not is_integer(part[0]) or not is_integer(part[1]):
            return False
    if [k for k, _ in weights] != lengths_of(row):
        return False
    if any(sum(w * min(c, k) for k, w in weights) % q for c in capacities):
        return False
    far = dict(points(row, other))
    return sum(w * far[k] for k, w in weights) % q != 0


def random_case(source, most):
    """Two rows with the same lengths and movable by sweeps of some kind, and a set."""
    every = source.sample(range(1, 9), source.randint(1, 4))
    while sum(every) > 20:
        every.pop()
    offsets = [(length, source.randint(-most, most)) for length in every]
    row = row_of(offsets, source.choice([(), [(0, 2)], [(-5, 9), (3, 4)]]))
    other = row_of([(length, offset + source.randint(-most, most)) for length, offset in offsets], row.capacities)
    capacities = sorted(source.sample(range(1, source.choice([6, 12, 100])), source.randint(1, 5)))
    if source.random() < 0.4:
        other = advance(row, {capacity: source.randint(-most, most) for capacity in capacities})
    return row, other, capacities


def independent(vectors):
    """The echelon form over the fractions, None if the vectors depend on each other."""
    found = []
    for vector in vectors:
        rest = [Fraction(part) for part in vector]
        for lead, pivot in found:
            rest = [part - rest[lead] * pivot_part for part, pivot_part in zip(rest, pivot)]
        leads = [place for place, part in enumerate(rest) if part]
        if not leads:
            return None
        found.append((leads[0], [part / rest[leads[0]] for part in rest]))
    return found


def rank(vectors):
    found = []
    for vector in vectors:
        if independent(found + [vector]) is not None:
            found.append(vector)
    return len(found)


def combination(basis, vector):
    """The numbers with which independent vectors make this one, None if they do not."""
    # One column for each basis vector, and the vector behind them.
    rows = [[Fraction(part) for part in parts] for parts in zip(*basis, vector)]
    for place in range(len(basis)):
        pivot = [row for row in rows[place:] if row[place]][0]
        rows.remove(pivot)
        pivot = [part / pivot[place] for part in pivot]
        rows = [[part - row[place] * pivot_part for part, pivot_part in zip(row, pivot)] for row in rows]
        rows.insert(place, pivot)
    if any(row[-1] for row in rows[len(basis):]):
        return None
    return [row[-1] for row in rows[:len(basis)]]


def cases():
    source = random.Random(80)
    found = [random_case(source, source.choice([2, 6, 50, FAR])) for _ in range(250)]
    for row, other in pairs_of_rows(source, sample_rows()[::4] + far_rows()[:-1]):
        found.append((row, other, sorted(source.sample(range(1, 42), source.randint(1, 8)))))
    row = row_of([(length, length * FAR // 9) for length in range(1, 9)], [(0, 3)])
    found.append((row, advance(row, {1: FAR, 40: -FAR, 5: 3}), list(range(1, 9))))
    found.append((row, advance(row, {1: FAR, 9: 1}), [2, 3, 5, 7, 11, 13, 17, 19]))
    found.append((Row(), Row(), [3, 5]))
    found.append((Row((), [(2, 2)]), Row((), [(2, 2)]), [99]))
    return found


class LedByTest(unittest.TestCase):
    def test_small_rows(self):
        one, other = Row([(0, 1), (1, 1)]), Row([(3, 1), (4, 1)])
        self.assertEqual(led_by(one, other, [1]), ("sweeps", {1: 3}))
        self.assertEqual(led_by(one, Row([(6, 1), (7, 1)]), (3,)), ("sweeps", {3: 3}))
        self.assertEqual(led_by(row=one, other=Row([(4, 1), (5, 1)]), capacities=[2]), ("sweeps", {2: 2}))
        self.assertEqual(led_by(one, Row([(-2, 1), (-1, 1)]), [2]), ("sweeps", {2: -1}))
        self.assertEqual(led_by(one, other, [2])[0], "barred")
        self.assertEqual(led_by(one, other, [7])[0], "barred")
        self.assertEqual(led_by(one, Row([(0, 1)]), [2]), ("length", 1))
        self.assertEqual(led_by(Row([(0, 1), (5, 1)]), Row([(1, 1), (7, 1)]), [1, 2]), ("apart", 1, 1))

    def test_rows_without_items(self):
        for capacities in GOOD_SETS:
            self.assertEqual(led_by(Row(), Row(), capacities), ("sweeps", {}))
            self.assertEqual(led_by(Row((), [(0, 4)]), Row((), [(0, 4)]), capacities), ("sweeps", {}))
            self.assertEqual(led_by(Row(), Row([(3, 1)]), capacities), ("length", 1))

    def test_counts_or_a_bar(self):
        kinds = {}
        for row, other, capacities in cases():
            answer = led_by(row, other, capacities)
            kinds[answer[0]] = kinds.get(answer[0], 0) + 1
            expected = slow_unlikeness(row, other)
            if expected:
                self.assertEqual(repr(answer), repr(expected))
            elif answer[0] == "sweeps":
                self.check_counts(row, other, capacities, answer)
            else:
                self.assertTrue(is_right_bar(row, other, capacities, answer), answer)
                self.assertIs(is_bar(row, other, capacities, answer), True)
                numbers = [answer[1]] + [w for _, w in answer[2]]
                self.assertLess(max(abs(number) for number in numbers), 10 ** 1000)
        self.assertEqual(set(kinds), {"sweeps", "length", "apart", "barred"})
        self.assertGreater(min(kinds.values()), 5)

    def check_counts(self, row, other, capacities, answer):
        self.assertEqual((type(answer), len(answer), type(answer[1])), (tuple, 2, dict))
        counts = answer[1]
        self.assertEqual(advance(row, counts), other)
        self.assertEqual(list(counts), [capacity for capacity in capacities if capacity in counts])
        for many in counts.values():
            self.assertTrue(is_integer(many) and many != 0 and abs(many) < 10 ** 1000)

    def test_against_a_search(self):
        source = random.Random(81)
        for _ in range(60):
            row, other, capacities = random_case(source, 3)
            capacities = capacities[:3]
            found = led_by(row, other, capacities)[0] == "sweeps"
            wanted = [(k, d) for k, d in points(row, other) if k]
            for numbers in itertools.product(range(-4, 5), repeat=len(capacities)):
                if all(sum(n * min(c, k) for c, n in zip(capacities, numbers)) == d for k, d in wanted):
                    self.assertTrue(found)

    def test_never_both(self):
        source = random.Random(82)
        for _ in range(40):
            row, other, capacities = random_case(source, 4)
            every = lengths_of(row)[:3]
            if led_by(row, other, capacities)[0] != "sweeps" or len(every) < len(lengths_of(row)):
                continue
            for q in range(2, 5):
                for numbers in itertools.product(range(-1, q), repeat=len(every)):
                    self.assertFalse(is_bar(row, other, capacities, ("barred", q, tuple(zip(every, numbers)))))

    def test_as_single_sweeps(self):
        row = Row([(0, 1), (1, 1), (2, 1), (5, 2), (9, 1)], [(5, 3)])
        for counts in ({2: 3, 3: -1}, {2: -2, 5: 1}, {3: 4}):
            other = row
            for capacity, many in counts.items():
                other = swept(other, capacity, many)
            now = row
            for capacity, many in led_by(row, other, [2, 3, 5])[1].items():
                now = swept(now, capacity, many)
            self.assertEqual(now, other)

    def test_equal_arguments_equal_results(self):
        for row, other, capacities in cases()[::9]:
            given = list(capacities)
            first = led_by(row, other, given)
            self.assertEqual(given, list(capacities))
            again = repr(first)
            if first[0] == "sweeps":
                first[1].clear()
            self.assertEqual(repr(led_by(row, other, tuple(capacities))), again)

    def test_refused_sets_come_first(self):
        for value in no_sets():
            for other in (Row(), Row((), [(0, 3)])):
                self.assertRaises(BadSet, led_by, Row(), other, value)
                self.assertRaises(BadSet, is_bar, Row(), other, value, ("barred", 2, ()))
            self.assertRaises(BadSet, loops, Row(), value)
            self.assertRaises(BadSet, loops, Row([(0, 1)]), value)

    def test_unlike_capacities(self):
        for capacities in GOOD_SETS:
            for action in (led_by, lambda *given: is_bar(*given, ("barred", 2, ()))):
                with self.assertRaises(BadRow) as caught:
                    action(Row([(0, 1)]), Row([(0, 1)], [(0, 3)]), capacities)
                self.assertEqual(caught.exception.field, "capacities")


class IsBarTest(unittest.TestCase):
    ONE, OTHER = Row([(0, 1), (1, 1)]), Row([(3, 1), (4, 1)])

    def test_small_rows(self):
        for value, expected in (
                (("barred", 2, ((2, 1),)), True), (("barred", 4, ((2, 2),)), True), (("barred", 2, ((2, -1),)), True),
                (("barred", 2, ((2, 1 + 2 * FAR),)), True), (("barred", 2 * FAR, ((2, FAR),)), True),
                (("barred", 10 ** 3998 * 2, ((2, 10 ** 3998),)), True), (("barred", 2, ((2, 10 ** 3998 + 1),)), True),
                (("barred", 4, ((2, 1),)), False), (("barred", 3, ((2, 3),)), False), (("barred", 2, ((2, 0),)), False),
                (("barred", -2, ((2, 1),)), False), (("barred", 1, ((2, 1),)), False), (("barred", 0, ((2, 1),)), False),
                (("barred", 2, ()), False), (("barred", 2, ((1, 0), (2, 1))), False),
                (("barred", 2, ((2, 1), (3, 0))), False), (("barred", 2, ((2, 1), (2, 0))), False)):
            self.assertIs(is_bar(self.ONE, self.OTHER, [2], value), expected, value)
            self.assertIs(is_bar(value=value, capacities=(2, 4, 98), other=self.OTHER, row=self.ONE), expected)
            self.assertIs(is_bar(self.ONE, self.OTHER, [1, 2], value), False)

    def test_zero_and_negative_weights(self):
        row = row_of([(1, 0), (2, 5), (3, -5)])
        other = row_of([(1, 1), (2, 7), (3, -2)])
        for numbers in itertools.product(range(-2, 3), repeat=3):
            for q in (2, 3, 4):
                value = ("barred", q, tuple(zip((1, 2, 3), numbers)))
                for capacities in ([1], [2], [1, 2], [1, 3]):
                    self.assertIs(is_bar(row, other, capacities, value),
                                  is_right_bar(row, other, capacities, value))

    def test_one_change(self):
        source = random.Random(83)
        checked = 0
        while checked < 25:
            row, other, capacities = random_case(source, 5)
            value = led_by(row, other, capacities)
            if value[0] != "barred":
                continue
            checked += 1
            for changed in changes(value):
                self.assertIs(is_bar(row, other, capacities, changed),
                              is_right_bar(row, other, capacities, changed), changed)

    def test_bars_times_a_factor(self):
        for row, other, capacities in cases()[::6]:
            value = led_by(row, other, capacities)
            if value[0] == "barred":
                for factor in (2, 3, FAR, 10 ** 3000):
                    _, q, weights = value
                    more = ("barred", q * factor, tuple((k, w * factor) for k, w in weights))
                    self.assertTrue(is_bar(row, other, capacities, more))
                    self.assertTrue(is_bar(row, other, capacities, (
                        "barred", q, tuple((k, w + q * factor) for k, w in weights))))

    def test_false_where_length_or_apart_applies(self):
        pairs = [(self.ONE, Row([(0, 1)])), (Row(), Row([(0, 1)])), (Row([(0, 1)]), Row()),
                 (Row([(0, 1), (5, 1)]), Row([(1, 1), (7, 1)]))]
        for row, other in pairs:
            for q in (2, 3, 4):
                for every in itertools.product(range(-2, 3), repeat=2):
                    for weights in (((1, every[0]),), ((2, every[0]),), tuple(zip((1, 2), every)), ()):
                        self.assertIs(is_bar(row, other, [2, 5], ("barred", q, weights)), False)

    def test_any_value(self):
        for row, other in ((self.ONE, self.OTHER), (Row(), Row()), (Row(), Row([(0, 1)]))):
            for value in any_values() + [2, 4]:
                for tried in (value, (value, 2, ((2, 1),)), ("barred", value, ((2, 1),)), ("barred", 2, value),
                              ("barred", 2, (value,)), ("barred", 2, ((value, 1),)), ("barred", 2, ((2, value),)),
                              [value, value, value]):
                    self.assertIs(is_bar(row, other, [2], tried), is_right_bar(row, other, [2], tried))
        self.assertIs(is_bar(Row(), Row(), [2], ("barred", 2, ())), False)


class LoopsTest(unittest.TestCase):
    def test_small_rows(self):
        one = Row([(0, 1), (1, 1)])
        self.assertEqual(len(loops(one, [1, 2, 5])), 2)
        self.assertEqual(loops(one, [1]), [])
        self.assertEqual([sorted(counts.items()) for counts in loops(one, (3, 7))] in
                         ([[(3, 1), (7, -1)]], [[(3, -1), (7, 1)]]), True)
        self.assertEqual(loops(row=Row(), capacities=[4]) in ([{4: 1}], [{4: -1}]), True)

    def test_generate_all_loops(self):
        for row, _, capacities in cases():
            found = loops(row, capacities)
            self.assertIs(type(found), list)
            for counts in found:
                self.assertEqual(list(counts), [capacity for capacity in capacities if capacity in counts])
                self.assertTrue(counts and all(is_integer(many) and many != 0 for many in counts.values()))
                self.assertLess(max(abs(many) for many in counts.values()), 10 ** 1000)
                self.assertEqual(advance(row, counts), row)
            matrix = [[min(c, k) for c in capacities] for k in lengths_of(row)]
            self.assertEqual(len(found), len(capacities) - rank(matrix))
            basis = [[counts.get(c, 0) for c in capacities] for counts in found]
            self.assertIsNotNone(independent(basis))

    def test_every_small_loop_is_made_in_one_way(self):
        source = random.Random(84)
        tried = 0
        for _ in range(60):
            row, _, capacities = random_case(source, 4)
            capacities = capacities[:4]
            basis = [[counts.get(c, 0) for c in capacities] for counts in loops(row, capacities)]
            if not basis:
                continue
            every = lengths_of(row)
            for numbers in itertools.product(range(-3, 4), repeat=len(capacities)):
                if any(sum(n * min(c, k) for c, n in zip(capacities, numbers)) for k in every):
                    continue
                parts = combination(basis, numbers)
                self.assertTrue(parts is not None and all(part.denominator == 1 for part in parts))
                tried += 1
        self.assertGreater(tried, 300)

    def test_rows_without_items(self):
        for capacities in GOOD_SETS:
            for row in (Row(), Row((), [(0, 2), (5, 9)])):
                basis = [[counts.get(c, 0) for c in capacities] for counts in loops(row, capacities)]
                for c in range(len(capacities)):
                    unit = [int(place == c) for place in range(len(capacities))]
                    self.assertTrue(all(part.denominator == 1 for part in combination(basis, unit)))
                self.assertEqual(len(basis), len(capacities))

    def test_new_lists_each_time(self):
        row = Row([(0, 1), (3, 1), (4, 1)])
        first = loops(row, [1, 2, 3, 4])
        again = repr(first)
        first[0].clear()
        first.append({})
        self.assertEqual(repr(loops(row, (1, 2, 3, 4))), again)


if __name__ == "__main__":
    unittest.main()
