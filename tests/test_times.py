import random
import unittest

from helper import FAR, far_rows, no_carrier_capacities, no_integers, sample_rows, swept
from scooprow.advance import advance
from scooprow.errors import BadCapacity, BadIndex
from scooprow.rows import Row
from scooprow.sweeps import sweep, trace, unsweep
from scooprow.times import given_up, seen
from scooprow.trains import lengths

# After so many sweeps no item of a sample row is left in its middle.
ENOUGH = 110


def states(row, capacity):
    """The rows after -ENOUGH to ENOUGH sweeps, one by one, with these numbers."""
    now = swept(row, capacity, -ENOUGH)
    found = []
    for many in range(-ENOUGH, ENOUGH + 1):
        found.append((many, now))
        now = sweep(now, capacity)
    return found


def picked_at(row, capacity, index):
    """How many items one sweep picks up at the box."""
    return sum(min(capacity - load, count) for place, load, count, _, _ in trace(row, capacity) if place == index)


def checked_rows():
    """Some of the sample rows, with a few boxes of each, wide ones and others."""
    for row in sample_rows()[::2]:
        indexes = [index for index, _ in row.capacities][:2] + [-1, 4]
        yield row, sorted({index for index in indexes if abs(index) < 20})


def moved_by(row, many):
    """A plain row with all items so many boxes further."""
    return Row([(index + many, count) for index, count in row.contents])


class SeenTest(unittest.TestCase):
    def test_small_rows(self):
        row = Row([(0, 1), (1, 1)])
        self.assertEqual(seen(row, 9, 4), [(2, 1)])
        self.assertEqual(seen(row, 1, 4), [(3, 1), (4, 1)])
        self.assertEqual(seen(row, 1, 0), [(-1, 1), (0, 1)])
        self.assertEqual(seen(row, 2, 1), [(0, 1)])
        self.assertEqual(seen(index=-4, capacity=2, row=row), [(-2, 1)])
        self.assertEqual(seen(Row([(0, 2)], [(0, 3)]), 1, 0), [(-1, 1), (0, 2), (1, 1)])
        self.assertEqual(seen(Row([(0, 9)], [(0, 9)]), 99, 0), [(0, 9)])

    def test_as_single_sweeps(self):
        for row, indexes in checked_rows():
            for capacity in (1, 2, 99):
                after = states(row, capacity)
                for index in indexes:
                    expected = [(many, now.held(index)) for many, now in after if now.held(index) > 0]
                    self.assertEqual(seen(row, capacity, index), expected)

    def test_rows_without_items(self):
        for index in (-FAR, 0, 3, FAR):
            for capacity in (1, 99):
                self.assertEqual(seen(Row(), capacity, index), [])
                self.assertEqual(seen(Row((), [(0, 5), (3, 2)]), capacity, index), [])

    def test_a_box_that_the_items_pass_over(self):
        row = Row([(0, 1), (1, 1), (2, 1)])
        self.assertEqual([seen(row, 99, index) for index in range(3, 7)], [[(1, 1)], [(1, 1)], [(1, 1)], [(2, 1)]])
        self.assertEqual(seen(Row([(0, 1), (10, 1), (11, 1)]), 99, 9), [(-1, 1), (9, 1)])
        self.assertEqual(seen(Row([(0, 1), (8, 1), (9, 1), (20, 1)], [(15, 2)]), 5, 7),
                         [(-13, 1), (-1, 1), (7, 1)])
        self.assertEqual(seen(Row([(0, 1), (1, 1), (3, 1)], [(9, 3)]), 3, 8), [(3, 1), (7, 1)])

    def test_the_numbers_go_on_from_sweep_to_sweep(self):
        for row, indexes in checked_rows():
            for capacity in (1, 3, 99):
                for many in (-1, FAR, -FAR):
                    expected = [(before - many, count) for before, count in seen(row, capacity, indexes[0])]
                    self.assertEqual(seen(advance(row, {capacity: many}), capacity, indexes[0]), expected)

    def test_boxes_far_away(self):
        self.assertEqual(seen(Row([(0, 1)]), 5, FAR), [(FAR, 1)])
        self.assertEqual(seen(Row([(0, 1)]), 5, -FAR), [(-FAR, 1)])
        self.assertEqual(seen(Row([(0, 1), (1, 1)]), 1, FAR), [(FAR - 1, 1), (FAR, 1)])
        self.assertEqual(seen(Row([(0, 1), (1, 1)]), 2, FAR), [(FAR // 2, 1)])
        self.assertEqual(seen(Row([(FAR, 1)], [(0, 9)]), 1, -FAR), [(-2 * FAR, 1)])
        for row in [row for row in sample_rows() if row.is_plain()][::2]:
            for capacity in (1, 2, 99):
                expected = seen(row, capacity, 3)
                for many in (FAR, -FAR):
                    self.assertEqual(seen(moved_by(row, many), capacity, many + 3), expected)

    def test_far_rows(self):
        source = random.Random(60)
        rows = far_rows()[:-1]
        for _ in range(4):
            contents = {source.randint(-FAR, FAR) + place: 1 for _ in range(4) for place in range(3)}
            rows.append(Row(list(contents.items()), [(-3, 9), (2, 4), (40, 2)]))
        for row in rows:
            for index in (-3, 7, FAR):
                for capacity in (1, 2, 50):
                    self.check_around(row, capacity, index, seen(row, capacity, index))

    def test_wide_boxes_all_around(self):
        source = random.Random(61)
        for _ in range(40):
            capacities = [(index, source.randint(2, 9)) for index in source.sample(range(-8, 9), 6)]
            wide = dict(capacities)
            items = {index: source.randint(1, wide.get(index, 1)) for index in source.sample(range(-12, 13), 4)}
            row = Row(list(items.items()), capacities)
            capacity = source.choice((1, 2, 4, 99))
            after = states(row, capacity)
            for index in [index for index, _ in capacities[:2]] + [source.randint(-15, 15)]:
                expected = [(many, now.held(index)) for many, now in after if now.held(index) > 0]
                self.assertEqual(seen(row, capacity, index), expected)

    def test_forty_items_all_far_apart(self):
        capacities = [(-3, 9), (60, 9), (5, 8), (7, 9), (9, 9), (-60, 9)]
        row = Row([(10 ** 28 * place, 1) for place in range(-20, 20)], capacities)
        for index in (7, -60, 60, 6, 10 ** 28):
            found = seen(row, 1, index)
            self.assertEqual(len(found), 40)
            self.check_around(row, 1, index, found)
        wide = Row([(0, 9), (3, 9), (5, 9), (6, 9), (9, 4)], [(index, 9) for index in (0, 3, 5, 6, 9)])
        self.check_around(wide, 1, FAR, seen(wide, 1, FAR))
        self.check_around(wide, 99, -FAR, seen(wide, 99, -FAR))
        row = Row([(place, 1) for place in range(40)])
        self.assertEqual(seen(row, 1, FAR // 10), [(FAR // 10 - 39 + place, 1) for place in range(40)])

    def check_around(self, row, capacity, index, found):
        """That the box has these numbers of items, and none just before and after."""
        counts = dict(found)
        for near in sorted({near + more for near in counts for more in (-1, 0, 1)}):
            now = advance(row, {capacity: near})
            self.assertEqual(counts.get(near, 0), now.held(index))
        passed_on = 0
        for many in counts:
            passed_on += picked_at(advance(row, {capacity: many}), capacity, index)
        self.assertEqual(passed_on, given_up(row, capacity, index))

    def test_ascending_pairs_in_a_new_list(self):
        for row, indexes in checked_rows():
            found = seen(row, 2, indexes[0])
            self.assertEqual((type(found), {type(part) for part in found} - {tuple}), (list, set()))
            self.assertEqual([many for many, _ in found], sorted({many for many, _ in found}))
            again = list(found)
            found.append((0, 0))
            self.assertEqual(seen(row, 2, indexes[0]), again)

    def test_forty_items(self):
        row = Row([(index, 1) for index in range(40)])
        self.assertEqual(seen(row, 1, 100), [(many, 1) for many in range(61, 101)])
        self.assertEqual(seen(row, 40, 100), [(2, 1)])
        row = Row([(place * FAR // 40, 1) for place in range(40)], [(0, 2), (60, 9)])
        found = seen(row, 99, 60)
        self.assertEqual((len(found), {count for _, count in found}), (40, {1}))


class GivenUpTest(unittest.TestCase):
    def test_small_rows(self):
        row = Row([(0, 1), (1, 1)])
        self.assertEqual([given_up(row, capacity, 4) for capacity in (1, 2, 99)], [1, 1, 1])
        self.assertEqual(given_up(Row([(0, 2)], [(0, 3)]), 1, 0), 2)
        self.assertEqual(given_up(index=5, capacity=7, row=Row([(0, 2), (9, 1)], [(0, 3)])), 2)
        self.assertEqual(given_up(Row(), 3, 0), 0)
        self.assertEqual(given_up(Row((), [(3, 4)]), 3, 3), 0)

    def test_as_single_sweeps(self):
        for row, indexes in checked_rows():
            for capacity in (1, 3, 99):
                after = states(row, capacity)
                for index in indexes:
                    expected = sum(picked_at(now, capacity, index) for _, now in after)
                    self.assertEqual(given_up(row, capacity, index), expected)

    def test_the_capacity_of_the_box_and_the_lengths(self):
        for row in sample_rows() + far_rows():
            for index in [index for index, _ in row.capacities] + [0, FAR, -FAR]:
                expected = sum(min(row.capacity(index), length) for length in lengths(row))
                for capacity in (1, 5, 99):
                    self.assertEqual(given_up(row, capacity, index), expected)


class RefusedTest(unittest.TestCase):
    ROWS = [Row(), Row([(0, 1), (1, 2)], [(1, 2)])]

    def test_refused_capacities(self):
        for action in (seen, given_up):
            for row in self.ROWS:
                for value in no_carrier_capacities() + [0, 100, -1]:
                    self.assertRaises(BadCapacity, action, row, value, 0)
                for value in (1, 99):
                    action(row, value, 0)

    def test_refused_indexes(self):
        for action in (seen, given_up):
            for row in self.ROWS:
                for value in no_integers():
                    self.assertRaises(BadIndex, action, row, 1, value)

    def test_the_capacity_is_looked_at_first(self):
        for action in (seen, given_up):
            for capacity in no_carrier_capacities():
                for index in no_integers():
                    self.assertRaises(BadCapacity, action, self.ROWS[1], capacity, index)

    def test_rows_stay(self):
        for row in sample_rows()[::4]:
            contents, capacities = row.contents, row.capacities
            seen(row, 2, 0), given_up(row, 2, 0)
            self.assertEqual((row.contents, row.capacities), (contents, capacities))
            self.assertEqual(sweep(unsweep(row, 2), 2), row)


if __name__ == "__main__":
    unittest.main()
