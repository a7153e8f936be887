import random
import unittest

from helper import FAR, any_values, far_rows, is_sorted_row, no_plain_rows, sample_rows, swept
from scooprow.advance import advance, picked_in_all, runs, sorted_after
from scooprow.errors import BadCounts, BadRow
from scooprow.exchanges import plain_form
from scooprow.rows import Row
from scooprow.sweeps import picked
from scooprow.trains import lengths, trains

BAD_COUNTS = [
    {0: 1}, {100: 1}, {-1: 1}, {10 ** 3999: 1}, {True: 1}, {"1": 1}, {None: 1}, {(1, 1): 1}, {(): 0},
    {1: True}, {1: False}, {1: None}, {1: "1"}, {1: [1]}, {1: (1,)}, {1: {}}, {1: Row()},
    {1: 1, 100: 1}, {1: 1, 0: 0}, {1: 1, 2: None}, {99: 5, 98: True}, {0: 0},
    [(1, 1)], ((1, 1),), [1], "1 x 1",
]


def no_counts():
    return BAD_COUNTS + [value for value in any_values() if value != {}] + [[], (), ""]


def sample_counts(source, most):
    """Counts in any order of the keys, with zeros and negative numbers."""
    capacities = source.sample([1, 2, 3, 4, 5, 7, 9, 12, 40, 99], source.randint(0, 5))
    return {capacity: source.randint(-most, most) for capacity in capacities}


def in_steps(source, counts):
    """One capacity with 1 or -1 for each single sweep, in any order."""
    steps = []
    for capacity, many in counts.items():
        steps.extend([(capacity, 1 if many > 0 else -1)] * abs(many))
    source.shuffle(steps)
    return steps


def added(one, other):
    return {capacity: one.get(capacity, 0) + other.get(capacity, 0) for capacity in {**other, **one}}


class AdvanceTest(unittest.TestCase):
    def test_small_counts(self):
        row = Row([(0, 1), (1, 1), (3, 1)])
        self.assertEqual(advance(row, {}), row)
        self.assertEqual(advance(row, {5: 0, 1: 0}), row)
        self.assertEqual(advance(row, {9: 1}), Row([(2, 1), (4, 1), (5, 1)]))
        self.assertEqual(advance(row, {9: 1, 8: -1}), row)
        self.assertEqual(advance(row, {1: 2, 2: -1, 99: -1}), Row([(-2, 1), (-1, 1), (3, 1)]))
        self.assertEqual(advance(row, {1: 2, 2: -1, 99: -1}), swept(swept(row, 2, -2), 1, 2))
        self.assertEqual(advance(counts={1: 7}, row=Row([(0, 1)])), Row([(7, 1)]))
        self.assertEqual(advance(Row([(0, 2)], [(0, 3)]), {1: 1}), Row([(0, 1), (1, 1)], [(0, 3)]))

    def test_rows_without_items(self):
        for counts in ({}, {1: 5}, {7: -FAR, 2: FAR}):
            self.assertEqual(advance(Row(), counts), Row())
            self.assertEqual(advance(Row((), [(0, 2), (5, 9)]), counts), Row((), [(0, 2), (5, 9)]))

    def test_as_single_sweeps_in_any_order(self):
        source = random.Random(50)
        for row in sample_rows() + far_rows():
            for most in (1, 3, 6):
                counts = sample_counts(source, most)
                expected = row
                for capacity, many in in_steps(source, counts):
                    expected = swept(expected, capacity, many)
                self.assertEqual(advance(row, counts), expected)

    def test_many_sweeps_of_one_capacity(self):
        for row in sample_rows()[::5]:
            for capacity in (1, 2, 99):
                self.assertEqual(advance(row, {capacity: 70}), swept(row, capacity, 70))
                self.assertEqual(advance(row, {capacity: -70}), swept(row, capacity, -70))

    def test_in_two_parts_and_back(self):
        source = random.Random(51)
        for row in sample_rows() + far_rows():
            one = sample_counts(source, FAR)
            other = sample_counts(source, FAR)
            both = added(one, other)
            after = advance(row, both)
            self.assertEqual(advance(advance(row, one), other), after)
            self.assertEqual(advance(advance(row, other), one), after)
            self.assertEqual(advance(after, {capacity: -many for capacity, many in both.items()}), row)
            self.assertEqual((after.capacities, after.total()), (row.capacities, row.total()))

    def test_each_train_goes_its_way(self):
        row = Row([(0, 1), (1, 1), (2, 1), (5, 1), (7, 1), (8, 1)], [(5, 4)])
        counts = {1: FAR, 2: -3 * FAR, 99: 5}
        self.assertEqual(trains(advance(row, counts)), sorted(
            (length, offset + FAR - 3 * FAR * min(2, length) + 5 * length) for length, offset in trains(row)))

    def test_all_capacities_very_often(self):
        counts = {capacity: FAR for capacity in range(1, 100)}
        self.assertEqual(advance(Row([(0, 1)]), counts), Row([(99 * FAR, 1)]))
        self.assertEqual(advance(Row([(3, 1), (4, 1)]), counts), Row([(197 * FAR + 3, 1), (197 * FAR + 4, 1)]))
        self.assertEqual(advance(Row([(0, 1)]), {1: -FAR, 99: -FAR}), Row([(-2 * FAR, 1)]))

    def test_counts_in_any_order_stay(self):
        row = Row([(0, 1), (1, 1), (3, 1)])
        counts = {9: 4, 1: -2, 5: 0}
        self.assertEqual(advance(row, counts), advance(row, {1: -2, 5: 0, 9: 4}))
        self.assertEqual(list(counts.items()), [(9, 4), (1, -2), (5, 0)])
        after = advance(row, counts)
        counts.clear()
        self.assertEqual(after, advance(row, {9: 4, 1: -2}))
        self.assertEqual(row, Row([(0, 1), (1, 1), (3, 1)]))

    def test_refused_counts(self):
        for row in (Row(), Row([(0, 1)]), Row([(0, 2)], [(0, 2)])):
            for value in no_counts():
                self.assertRaises(BadCounts, advance, row, value)
            for capacity in (1, 99):
                self.assertEqual(advance(row, {capacity: 0}), row)


class PickedInAllTest(unittest.TestCase):
    def test_small_counts(self):
        row = Row([(0, 1), (1, 1), (3, 1)])
        self.assertEqual(picked_in_all(row, {}), {})
        self.assertEqual(picked_in_all(row, {9: -1, 1: 2, 7: 0}), {1: 4, 7: 0, 9: -3})
        self.assertEqual(picked_in_all(counts={2: FAR}, row=row), {2: 3 * FAR})
        self.assertEqual(picked_in_all(Row(), {2: FAR, 3: -1}), {2: 0, 3: 0})
        self.assertEqual(picked_in_all(Row([(0, 3)], [(0, 3)]), {2: 5, 3: -FAR}), {2: 10, 3: -3 * FAR})

    def test_as_single_sweeps_in_any_order(self):
        source = random.Random(52)
        for row in sample_rows() + far_rows():
            counts = sample_counts(source, 4)
            expected = {capacity: 0 for capacity in counts}
            now = row
            for capacity, many in in_steps(source, counts):
                if many > 0:
                    expected[capacity] += picked(now, capacity)
                now = swept(now, capacity, many)
                # An inverse sweep takes back what the sweep from there picks up.
                if many < 0:
                    expected[capacity] -= picked(now, capacity)
            self.assertEqual(picked_in_all(row, counts), expected)

    def test_in_two_parts(self):
        source = random.Random(53)
        for row in sample_rows() + far_rows():
            one = sample_counts(source, FAR)
            other = sample_counts(source, FAR)
            self.assertEqual(added(picked_in_all(row, one), picked_in_all(advance(row, one), other)),
                             picked_in_all(row, added(one, other)))

    def test_keys_ascend_in_a_new_dict(self):
        row = Row([(0, 1), (1, 1), (3, 1)])
        counts = {99: 1, 3: 0, 40: -2, 1: 5}
        found = picked_in_all(row, counts)
        self.assertEqual(list(found.items()), [(1, 10), (3, 0), (40, -6), (99, 3)])
        found.clear()
        self.assertEqual(list(counts.items()), [(99, 1), (3, 0), (40, -2), (1, 5)])
        self.assertEqual(list(picked_in_all(row, counts)), [1, 3, 40, 99])
        self.assertEqual(list(picked_in_all(Row(), counts)), [1, 3, 40, 99])

    def test_refused_counts(self):
        for row in (Row(), Row([(0, 1)])):
            for value in no_counts():
                self.assertRaises(BadCounts, picked_in_all, row, value)


class SortedAfterTest(unittest.TestCase):
    def test_small_rows(self):
        self.assertEqual(sorted_after(Row()), 0)
        self.assertEqual(sorted_after(Row((), [(0, 2)])), 0)
        self.assertEqual(sorted_after(Row([(0, 1)])), 0)
        self.assertEqual(sorted_after(Row([(0, 1), (2, 1), (4, 1)])), 0)
        self.assertEqual(sorted_after(row=Row([(0, 1), (1, 1), (3, 1)])), 1)
        self.assertEqual(sorted_after(Row([(0, 1), (1, 1), (3, 1), (4, 1)])), 1)
        self.assertEqual(sorted_after(Row([(0, 1), (1, 1), (4, 1), (5, 1)])), 0)
        self.assertEqual(sorted_after(Row([(0, 1), (2, 1), (3, 1)])), 0)
        self.assertEqual(sorted_after(Row([(0, 1), (1, 1), (9, 1)])), 7)

    def test_a_gap_that_is_just_enough(self):
        for length in range(1, 9):
            block = [(index, 1) for index in range(length)]
            for gap in range(1, 2 * length + 2):
                row = Row(block + [(index + length + gap, 1) for index in range(length)])
                self.assertEqual(sorted_after(row) == 0, gap >= length)

    def test_as_long_sweeps_one_by_one(self):
        for row in sample_rows():
            for capacity in (max(row.total(), 1), 99):
                many = 0
                now = row
                while not is_sorted_row(plain_form(now)):
                    many += 1
                    now = swept(now, capacity, 1)
                self.assertEqual(sorted_after(row), many)

    def test_it_stays_sorted_and_each_run_is_a_train(self):
        for row in sample_rows() + far_rows():
            for more in (0, 1, 2, 50, FAR):
                now = plain_form(advance(row, {99: sorted_after(row) + more}))
                self.assertTrue(is_sorted_row(now))
                self.assertEqual([length for _, length in runs(now)], lengths(row)[::-1])

    def test_runs_far_apart(self):
        source = random.Random(54)
        rows = far_rows() + [Row([(-FAR, 1), (-FAR + 1, 1), (FAR, 1)]),
                             Row([(-FAR + index, 1) for index in range(39)] + [(FAR, 1)])]
        for _ in range(60):
            starts = sorted(source.randint(-FAR, FAR) for _ in range(source.randint(2, 6)))
            rows.append(Row([(start + index, 1) for start in starts for index in range(source.randint(1, 6))]))
        great = 0
        for row in rows:
            least = sorted_after(row)
            self.assertTrue(is_sorted_row(plain_form(advance(row, {99: least}))))
            if least > 0:
                self.assertFalse(is_sorted_row(plain_form(advance(row, {99: least - 1}))))
            great += least > 10 ** 28
        self.assertGreater(great, 30)
        self.assertEqual(sorted_after(Row([(-FAR, 1), (-FAR + 1, 1), (FAR, 1)])), 2 * FAR - 2)

    def test_long_sweeps_before(self):
        for row in sample_rows()[::3]:
            least = sorted_after(row)
            self.assertEqual(sorted_after(advance(row, {99: -FAR})) == 0, len(set(lengths(row))) < 2)
            self.assertEqual(sorted_after(advance(row, {99: 1})), max(0, least - 1))


class RunsTest(unittest.TestCase):
    def test_small_rows(self):
        self.assertEqual(runs(Row()), [])
        self.assertEqual(runs(Row([(4, 1)])), [(4, 1)])
        self.assertEqual(runs(Row([(0, 1), (1, 1), (3, 1)])), [(0, 2), (3, 1)])
        self.assertEqual(runs(row=Row([(5, 1), (-1, 1), (0, 1), (1, 1), (3, 1)])), [(-1, 3), (3, 1), (5, 1)])
        self.assertEqual(runs(Row([(index, 1) for index in range(40)])), [(0, 40)])
        self.assertEqual(runs(Row([(2 * index, 1) for index in range(40)])),
                         [(2 * index, 1) for index in range(40)])
        self.assertEqual(runs(Row([(-FAR, 1), (-FAR + 1, 1), (FAR, 1)])), [(-FAR, 2), (FAR, 1)])

    def test_the_runs_are_the_row(self):
        for row in sample_rows() + far_rows():
            found = runs(plain_form(row))
            self.assertEqual((type(found), {type(part) for part in found} - {tuple}), (list, set()))
            full = [first + place for first, length in found for place in range(length)]
            self.assertEqual([(index, 1) for index in full], list(plain_form(row).contents))
            for (first, length), (following, _) in zip(found, found[1:]):
                self.assertGreater(following, first + length)
            found.append((0, 1))
            self.assertEqual(runs(plain_form(row)), found[:-1])

    def test_no_plain_rows(self):
        for value in no_plain_rows() + [Row((), [(0, 2)]), Row([(5, 1)], [(0, 2)])]:
            with self.assertRaises(BadRow) as caught:
                runs(value)
            self.assertEqual(caught.exception.field, "plain")


if __name__ == "__main__":
    unittest.main()
