import copy
import itertools
import unittest

from helper import (FAR, any_values, far_rows, is_integer, no_carrier_capacities, no_integers,
                    sample_rows, slow_steps, slow_sweep)
from scooprow.errors import BadCapacity, BadIndex, BadNumber
from scooprow.rows import Row
from scooprow.sweeps import halfway, passed, picked, sweep, trace, unsweep

CAPACITIES = [1, 2, 3, 5, 9, 40, 99]


def all_passages(capacities):
    """All arguments of passed with these capacities."""
    for capacity, box_capacity in itertools.product(capacities, repeat=2):
        for load in range(capacity + 1):
            for count in range(box_capacity + 1):
                yield capacity, load, box_capacity, count


class PassedTest(unittest.TestCase):
    def test_it_picks_up_and_puts_down(self):
        self.assertEqual(passed(1, 0, 1, 1), (0, 1))
        self.assertEqual(passed(1, 1, 1, 0), (1, 0))
        self.assertEqual(passed(1, 1, 1, 1), (1, 1))
        self.assertEqual(passed(1, 0, 1, 0), (0, 0))
        self.assertEqual(passed(3, 2, 4, 3), (3, 2))
        self.assertEqual(passed(5, 2, 4, 3), (1, 4))
        self.assertEqual(passed(3, 3, 4, 1), (4, 0))
        self.assertEqual(passed(99, 99, 99, 0), (99, 0))
        self.assertEqual(passed(99, 0, 99, 99), (0, 99))
        self.assertEqual(passed(99, 98, 1, 1), (0, 99))

    def test_by_the_numbers_before(self):
        for capacity, load, box_capacity, count in all_passages([1, 2, 3, 6, 9]):
            up = min(capacity - load, count)
            down = min(load, box_capacity - count)
            self.assertEqual(passed(capacity, load, box_capacity, count),
                             (count - up + down, load + up - down))

    def test_passing_back_gives_the_numbers_before(self):
        for capacity, load, box_capacity, count in all_passages([1, 2, 5, 9, 30]):
            new_count, new_load = passed(capacity, load, box_capacity, count)
            self.assertEqual(new_count + new_load, count + load)
            self.assertEqual(passed(capacity, new_load, box_capacity, new_count), (count, load))

    def test_by_name(self):
        self.assertEqual(passed(count=3, box_capacity=4, load=2, capacity=5), (1, 4))

    def test_one_beyond_the_bounds(self):
        for good in ((1, 0, 1, 0), (99, 99, 99, 99), (99, 0, 99, 0)):
            self.assertEqual(len(passed(*good)), 2)
        for bad in ((0, 0, 1, 0), (100, 0, 1, 0), (1, 0, 0, 0), (1, 0, 100, 0), (5, -1, 1, 0),
                    (5, 6, 1, 0), (5, 0, 4, -1), (5, 0, 4, 5), (99, 100, 99, 0), (99, 0, 99, 100),
                    (-1, 0, 1, 0), (1, 0, -1, 0), (0, 0, 0, 0), (2, 3, 5, 0), (5, 0, 2, 3)):
            self.assertRaises(BadNumber, passed, *bad)

    def test_values_of_any_kind(self):
        for place in range(4):
            for value in no_integers() + [10 ** 3999, -10 ** 3999]:
                arguments = [5, 1, 5, 1]
                arguments[place] = value
                self.assertRaises(BadNumber, passed, *arguments)


class SweepTest(unittest.TestCase):
    def test_small_sweeps(self):
        self.assertEqual(sweep(Row([(0, 1)]), 1), Row([(1, 1)]))
        self.assertEqual(sweep(Row([(0, 1), (1, 1)]), 1), Row([(1, 1), (2, 1)]))
        self.assertEqual(sweep(Row([(0, 1), (1, 1)]), 2), Row([(2, 1), (3, 1)]))
        self.assertEqual(sweep(Row([(0, 2)], [(0, 2)]), 1), Row([(0, 1), (1, 1)], [(0, 2)]))
        self.assertEqual(sweep(Row([(-1, 1)], [(0, 2)]), 9), Row([(0, 1)], [(0, 2)]))
        self.assertEqual(unsweep(Row([(0, 1)]), 1), Row([(-1, 1)]))
        self.assertEqual(unsweep(Row([(2, 1), (3, 1)]), 2), Row([(0, 1), (1, 1)]))

    def test_as_box_by_box(self):
        for row in sample_rows():
            for capacity in CAPACITIES:
                self.assertEqual(sweep(row, capacity), slow_sweep(row, capacity))

    def test_each_sweep_is_undone_by_its_inverse(self):
        for row in sample_rows() + far_rows():
            for capacity in CAPACITIES:
                self.assertEqual(unsweep(sweep(row, capacity), capacity), row)
                self.assertEqual(sweep(unsweep(row, capacity), capacity), row)

    def test_sweeps_in_any_order(self):
        for row in sample_rows() + far_rows():
            for one, other in itertools.combinations(CAPACITIES, 2):
                self.assertEqual(sweep(sweep(row, one), other), sweep(sweep(row, other), one))
                self.assertEqual(unsweep(sweep(row, one), other), sweep(unsweep(row, other), one))

    def test_capacities_and_items_stay(self):
        for row in sample_rows() + far_rows():
            for moved in (sweep(row, 3), unsweep(row, 3)):
                self.assertIs(type(moved), Row)
                self.assertEqual((moved.capacities, moved.total()), (row.capacities, row.total()))

    def test_different_rows_are_swept_to_different_rows(self):
        boxes = [(0, 1), (1, 1), (2, 1), (2, 2), (3, 1), (3, 2), (3, 3), (4, 1)]
        rows = []
        for many in range(6):
            for contents in itertools.combinations(boxes, many):
                if len({index for index, _ in contents}) == many:
                    rows.append(Row(contents, [(2, 2), (3, 3)]))
        for capacity in (1, 2, 3, 4):
            swept = {sweep(row, capacity).contents for row in rows}
            self.assertEqual(len(swept), len(rows))

    def test_items_far_apart(self):
        row = Row([(-FAR, 1), (-FAR + 1, 1), (0, 3), (FAR, 1)], [(0, 4)])
        self.assertEqual(sweep(row, 2), Row([(-FAR + 2, 1), (-FAR + 3, 1), (0, 1), (1, 1), (2, 1),
                                             (FAR + 1, 1)], [(0, 4)]))
        self.assertEqual(unsweep(row, 99), Row([(-FAR - 1, 1), (-FAR - 2, 1), (-1, 1), (-2, 1), (-3, 1),
                                                (FAR - 1, 1)], [(0, 4)]))
        self.assertEqual(picked(row, 2), 5)

    def test_arguments_by_name(self):
        row = Row([(0, 1), (1, 1), (3, 1)])
        self.assertEqual(sweep(capacity=9, row=row), Row([(2, 1), (4, 1), (5, 1)]))
        self.assertEqual(unsweep(capacity=9, row=sweep(row, 9)), row)
        self.assertEqual(picked(capacity=1, row=row), 2)
        self.assertEqual(trace(capacity=1, row=row), trace(row, 1))
        self.assertEqual(halfway(index=0, capacity=1, row=row), (Row([(1, 1), (3, 1)]), 1))

    def test_rows_stay(self):
        for row in sample_rows():
            contents, capacities = row.contents, row.capacities
            sweep(row, 2), unsweep(row, 2), picked(row, 2), trace(row, 2), halfway(row, 2, 0)
            self.assertEqual((row.contents, row.capacities), (contents, capacities))

    def test_capacities_beyond_the_bounds(self):
        row = Row([(0, 1), (1, 2)], [(1, 2)])
        for action in (sweep, unsweep, picked, trace, lambda row, capacity: halfway(row, capacity, 0)):
            for good in (1, 99):
                action(row, good)
            for bad in no_carrier_capacities() + [0, 100, -1]:
                self.assertRaises(BadCapacity, action, row, bad)
                self.assertRaises(BadCapacity, action, Row(), bad)


class PickedTest(unittest.TestCase):
    def test_as_box_by_box(self):
        for row in sample_rows():
            for capacity in CAPACITIES:
                expected = sum(min(capacity - load, count)
                               for _, load, count, _, _ in slow_steps(row, capacity))
                self.assertEqual(picked(row, capacity), expected)

    def test_small_numbers(self):
        row = Row([(0, 1), (1, 1), (3, 1)])
        self.assertEqual([picked(row, capacity) for capacity in (1, 2, 3, 99)], [2, 3, 3, 3])
        self.assertEqual(picked(Row((), [(0, 2)]), 5), 0)
        self.assertEqual(picked(Row([(0, 4)], [(0, 4)]), 3), 3)

    def test_no_sweep_changes_it(self):
        for row in sample_rows() + far_rows():
            for one, other in itertools.product((1, 2, 4, 99), repeat=2):
                self.assertEqual(picked(sweep(row, one), other), picked(row, other))

    def test_a_great_carrier_picks_up_all(self):
        for row in sample_rows() + far_rows():
            self.assertEqual(picked(row, 99), row.total())


class TraceTest(unittest.TestCase):
    def test_as_box_by_box(self):
        for row in sample_rows():
            for capacity in CAPACITIES:
                expected = [step for step in slow_steps(row, capacity) if step[1] or step[2]]
                self.assertEqual(trace(row, capacity), expected)

    def test_gaps_and_far_items(self):
        self.assertEqual(trace(Row([(-FAR, 1), (FAR, 1)], [(0, 2)]), 7),
                         [(-FAR, 0, 1, 1, 0), (-FAR + 1, 1, 0, 0, 1), (FAR, 0, 1, 1, 0), (FAR + 1, 1, 0, 0, 1)])
        self.assertEqual(trace(Row([(0, 1), (2, 1)]), 1),
                         [(0, 0, 1, 1, 0), (1, 1, 0, 0, 1), (2, 0, 1, 1, 0), (3, 1, 0, 0, 1)])

    def test_a_wide_box(self):
        self.assertEqual(trace(Row([(0, 1), (1, 2)], [(1, 3)]), 2),
                         [(0, 0, 1, 1, 0), (1, 1, 2, 1, 2), (2, 1, 0, 0, 1)])

    def test_without_items(self):
        self.assertEqual(trace(Row(), 1), [])
        self.assertEqual(trace(Row((), [(0, 5)]), 99), [])

    def test_it_is_a_new_list_of_tuples(self):
        row = Row([(0, 1), (1, 1)])
        steps = trace(row, 1)
        self.assertEqual((type(steps), {type(step) for step in steps}), (list, {tuple}))
        steps.clear()
        self.assertEqual(len(trace(row, 1)), 3)


class HalfwayTest(unittest.TestCase):
    def test_as_box_by_box(self):
        for row in sample_rows():
            for capacity in (1, 2, 5, 99):
                steps = slow_steps(row, capacity)
                for many, step in enumerate(steps, 1):
                    contents = [(done[0], done[4]) for done in steps[:many] if done[4]]
                    contents += [pair for pair in row.contents if pair[0] > step[0]]
                    result = halfway(row, capacity, step[0])
                    self.assertEqual(result, (Row(contents, row.capacities), step[3]))
                    self.assertIs(type(result), tuple)

    def test_in_front_between_and_behind(self):
        row = Row([(0, 1), (1, 1), (FAR, 1)], [(5, 2)])
        for index in (-1, -5, -FAR, -10 ** 3999):
            self.assertEqual(halfway(row, 2, index), (row, 0))
        self.assertEqual(halfway(row, 2, 0), (Row([(1, 1), (FAR, 1)], [(5, 2)]), 1))
        self.assertEqual(halfway(row, 2, 1), (Row([(FAR, 1)], [(5, 2)]), 2))
        self.assertEqual(halfway(row, 2, 2), (Row([(2, 1), (FAR, 1)], [(5, 2)]), 1))
        for index in (3, 4, 5, 60, FAR - 1):
            self.assertEqual(halfway(row, 2, index), (Row([(2, 1), (3, 1), (FAR, 1)], [(5, 2)]), 0))
        self.assertEqual(halfway(row, 2, FAR), (Row([(2, 1), (3, 1)], [(5, 2)]), 1))
        for index in (FAR + 1, FAR + 2, 10 ** 3999):
            self.assertEqual(halfway(row, 2, index), (sweep(row, 2), 0))

    def test_without_items(self):
        for index in (-FAR, 0, FAR):
            self.assertEqual(halfway(Row(), 3, index), (Row(), 0))
            self.assertEqual(halfway(Row((), [(0, 3)]), 3, index), (Row((), [(0, 3)]), 0))

    def test_refused_indexes(self):
        for row in (Row(), Row([(0, 1), (1, 2)], [(1, 2)])):
            for value in no_integers():
                self.assertRaises(BadIndex, halfway, row, 1, value)

    def test_the_capacity_is_looked_at_first(self):
        for capacity in no_carrier_capacities():
            for index in no_integers():
                self.assertRaises(BadCapacity, halfway, Row([(0, 1)]), capacity, index)

    def test_refused_values_stay(self):
        row = Row([(0, 1)])
        for value in any_values():
            before = copy.deepcopy(value)
            if not is_integer(value):
                self.assertRaises(BadCapacity, sweep, row, value)
                self.assertRaises(BadIndex, halfway, row, 1, value)
                self.assertEqual(repr(value)[:10], repr(before)[:10])
        self.assertEqual(row, Row([(0, 1)]))


if __name__ == "__main__":
    unittest.main()
