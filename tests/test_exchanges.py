import itertools
import unittest

from helper import FAR, any_values, far_rows, is_integer, no_plain_rows, sample_rows
from scooprow.errors import BadHolder, BadIndex, BadRow
from scooprow.exchanges import exchanged, plain_form, shifted, with_capacities
from scooprow.rows import Row, is_row_like
from scooprow.sweeps import passed, sweep, unsweep
from test_rows import BAD_CAPACITIES, GOOD_CAPACITIES

MANY_CAPACITIES = GOOD_CAPACITIES + [
    [(0, 2), (1, 2), (2, 2)], [(0, 9), (1, 2), (-1, 3)], [(index, index + 2) for index in range(6)],
    [(-60, 9), (-59, 9), (59, 2), (60, 2)], [(3, 4), (-8, 2), (5, 9)],
]


def holders(capacities):
    return [(capacity, count) for capacity in capacities for count in range(capacity + 1)]


def slow_plain_form(row):
    """The plain form by exchanges of one pair of holders after another; no far rows."""
    start, end = -110, 110
    boxes = [(row.capacity(index), row.held(index)) for index in range(start, end)]
    for index, _ in row.capacities:
        place = index - start
        while boxes[place][1] or any(count for _, count in boxes[:place]):
            boxes[place - 1], boxes[place] = exchanged(boxes[place - 1], boxes[place])
            place -= 1
        # Without the wide box all boxes on its left stand one to the right.
        del boxes[place]
        boxes.insert(0, (1, 0))
    return Row([(start + place, count) for place, (_, count) in enumerate(boxes) if count])


class ExchangedTest(unittest.TestCase):
    def test_small_exchanges(self):
        self.assertEqual(exchanged((3, 2), (1, 0)), ((1, 1), (3, 1)))
        self.assertEqual(exchanged((1, 1), (1, 0)), ((1, 1), (1, 0)))
        self.assertEqual(exchanged((1, 0), (9, 5)), ((9, 4), (1, 1)))
        self.assertEqual(exchanged((99, 99), (99, 0)), ((99, 99), (99, 0)))
        self.assertEqual(exchanged((99, 98), (1, 1)), ((1, 0), (99, 99)))
        self.assertEqual(exchanged(right=(1, 0), left=(3, 2)), ((1, 1), (3, 1)))

    def test_the_left_one_passes_the_right_one(self):
        for left, right in itertools.product(holders([1, 2, 3, 7]), repeat=2):
            count, load = passed(*left, *right)
            self.assertEqual(exchanged(left, right), ((right[0], count), (left[0], load)))

    def test_exchanging_twice(self):
        for left, right in itertools.product(holders([1, 2, 3, 5, 9, 20]), repeat=2):
            self.assertEqual(exchanged(*exchanged(left, right)), (left, right))

    def test_three_holders_turned_round_in_both_ways(self):
        some = holders([1, 2, 3, 4]) + [(9, 5), (99, 0), (99, 7), (99, 99)]
        for one, two, three in itertools.product(some, repeat=3):
            a, b = exchanged(one, two)
            b, c = exchanged(b, three)
            a, b = exchanged(a, b)
            e, f = exchanged(two, three)
            d, e = exchanged(one, e)
            e, f = exchanged(e, f)
            self.assertEqual((a, b, c), (d, e, f))

    def test_refused_holders(self):
        beyond = [(0, 0), (100, 0), (1, 2), (5, -1), (5, 6), (99, 100), (-1, 0), [3, 2], (3,), (3, 2, 1),
                  (10 ** 3999, 0), (3, 10 ** 3999), (True, 0), (1, True), (1, False), ((3, 2), (1, 0))]
        fitting = {(1, 1), (1, 0)}
        for value in any_values() + beyond:
            if isinstance(value, tuple) and repr(value) in [repr(holder) for holder in fitting]:
                continue
            self.assertRaises(BadHolder, exchanged, value, (3, 2))
            self.assertRaises(BadHolder, exchanged, (3, 2), value)
            self.assertRaises(BadHolder, exchanged, value, value)
        self.assertEqual(exchanged((99, 99), (1, 1)), ((1, 1), (99, 99)))


class ShiftedTest(unittest.TestCase):
    def test_to_a_plain_box(self):
        row = Row([(-1, 1), (0, 2), (1, 1), (FAR, 1)], [(0, 3)])
        self.assertEqual(shifted(row, 0), Row([(-1, 3), (1, 1), (FAR, 1)], [(-1, 3)]))
        row = Row([(0, 2), (1, 1)], [(0, 3)])
        self.assertEqual(shifted(row, 0), Row([(-1, 1), (0, 1), (1, 1)], [(-1, 3)]))
        self.assertEqual(shifted(index=5, row=Row((), [(5, 2), (3, 2)])), Row((), [(4, 2), (3, 2)]))

    def test_to_a_wide_box(self):
        row = Row([(3, 2), (4, 5)], [(3, 2), (4, 6)])
        left, right = exchanged((2, 2), (6, 5))
        self.assertEqual((left, right), ((6, 6), (2, 1)))
        self.assertEqual(shifted(row, 4), Row([(3, 6), (4, 1)], [(3, 6), (4, 2)]))
        row = Row([(4, 5)], [(3, 2), (4, 6)])
        self.assertEqual(shifted(row, 4), Row([(3, 3), (4, 2)], [(3, 6), (4, 2)]))
        row = Row([(3, 2), (4, 1)], [(3, 4), (4, 4), (5, 9)])
        self.assertEqual(shifted(row, 4), row)

    def test_each_wide_box_of_many_rows(self):
        for row in sample_rows() + far_rows():
            for index, capacity in row.capacities:
                if index == -60:
                    continue
                after = shifted(row, index)
                left, right = exchanged((row.capacity(index - 1), row.held(index - 1)),
                                        (capacity, row.held(index)))
                self.assertEqual((after.capacity(index - 1), after.held(index - 1)), left)
                self.assertEqual((after.capacity(index), after.held(index)), right)
                for before, now in ((row.contents, after.contents), (row.capacities, after.capacities)):
                    self.assertEqual([pair for pair in before if pair[0] not in (index - 1, index)],
                                     [pair for pair in now if pair[0] not in (index - 1, index)])
                self.assertEqual(plain_form(after), plain_form(row))

    def test_at_the_left_end(self):
        row = Row([(-60, 1), (-59, 1)], [(-60, 2), (-59, 3)])
        self.assertRaises(BadIndex, shifted, row, -60)
        self.assertEqual(shifted(row, -59).capacities, ((-60, 3), (-59, 2)))
        self.assertEqual(shifted(Row([(-59, 3)], [(-59, 3)]), -59), Row([(-60, 2), (-59, 1)], [(-60, 3)]))
        self.assertRaises(BadIndex, shifted, Row((), [(-60, 2)]), -60)
        self.assertRaises(BadIndex, shifted, Row(), -60)

    def test_refused_indexes(self):
        row = Row([(0, 2), (1, 3), (5, 1)], [(0, 2), (1, 3), (60, 2)])
        for value in any_values() + [5, -1, 2, -60, -61, 61, FAR]:
            if is_integer(value) and value in (0, 1, 60):
                self.assertEqual(shifted(row, value).total(), 6)
            else:
                self.assertRaises(BadIndex, shifted, row, value)
        self.assertEqual(row, Row([(0, 2), (1, 3), (5, 1)], [(0, 2), (1, 3), (60, 2)]))


class PlainFormTest(unittest.TestCase):
    def test_small_rows(self):
        self.assertEqual(plain_form(Row([(0, 1)], [(0, 2)])), Row([(0, 1)]))
        self.assertEqual(plain_form(Row([(-1, 1)], [(0, 2)])), Row([(-1, 1)]))
        self.assertEqual(plain_form(Row([(0, 1)], [(5, 2)])), Row([(0, 1)]))
        self.assertEqual(plain_form(Row([(6, 1)], [(5, 2)])), Row([(6, 1)]))
        self.assertEqual(plain_form(row=Row([(0, 2)], [(0, 2)])), Row([(-1, 1), (0, 1)]))

    def test_plain_rows_and_rows_without_items(self):
        for row in sample_rows() + far_rows():
            self.assertEqual(plain_form(Row(plain_form(row).contents)), plain_form(row))
            if row.is_plain():
                self.assertEqual(plain_form(row), row)
            self.assertEqual(plain_form(Row((), row.capacities)), Row())

    def test_by_exchanges_one_after_another(self):
        for row in sample_rows():
            self.assertEqual(plain_form(row), slow_plain_form(row))

    def test_wide_boxes_side_by_side(self):
        row = Row([(0, 2), (1, 3), (2, 1)], [(0, 2), (1, 4), (2, 9)])
        self.assertEqual(plain_form(row), slow_plain_form(row))
        self.assertEqual(plain_form(row).total(), 6)
        self.assertEqual(plain_form(Row([(0, 1), (1, 2)], [(0, 2), (1, 2)])),
                         slow_plain_form(Row([(0, 1), (1, 2)], [(0, 2), (1, 2)])))

    def test_items_far_apart(self):
        row = Row([(-FAR, 1), (0, 2), (FAR, 1)], [(0, 3)])
        self.assertEqual(plain_form(row), Row([(-FAR, 1), (-1, 1), (0, 1), (FAR, 1)]))
        row = Row([(-FAR, 1), (-FAR + 1, 1)], [(-60, 2), (60, 2)])
        self.assertEqual(plain_form(row), Row([(-FAR - 2, 1), (-FAR - 1, 1)]))

    def test_the_plain_form_of_a_sweep(self):
        for row in sample_rows() + far_rows():
            for capacity in (1, 2, 3, 9, 99):
                self.assertEqual(plain_form(sweep(row, capacity)), sweep(plain_form(row), capacity))
                self.assertEqual(plain_form(unsweep(row, capacity)), unsweep(plain_form(row), capacity))


class WithCapacitiesTest(unittest.TestCase):
    def test_small_rows(self):
        row = Row([(-1, 1), (0, 1), (1, 1)])
        self.assertEqual(with_capacities(row, [(0, 3)]), Row([(0, 2), (1, 1)], [(0, 3)]))
        self.assertEqual(with_capacities(Row([(-2, 1), (-1, 1)]), ((0, 2),)),
                         Row([(-1, 1), (0, 1)], [(0, 2)]))
        self.assertEqual(with_capacities(capacities=[(5, 2)], row=Row([(0, 1)])), Row([(0, 1)], [(5, 2)]))
        self.assertEqual(with_capacities(Row(), [(5, 2), (4, 9)]), Row((), [(4, 9), (5, 2)]))
        self.assertEqual(with_capacities(row, []), row)
        self.assertEqual(with_capacities(row, ()), row)

    def test_inverse_of_plain_form(self):
        for row in sample_rows() + far_rows():
            self.assertEqual(with_capacities(plain_form(row), row.capacities), row)

    def test_plain_form_is_its_inverse(self):
        plain = [row for row in sample_rows() + far_rows() if row.is_plain()]
        for row in plain:
            for capacities in MANY_CAPACITIES:
                after = with_capacities(row, capacities)
                self.assertEqual(after.capacities, tuple(sorted(capacities)))
                self.assertEqual(plain_form(after), row)

    def test_pairs_in_any_order_stay_as_they_are(self):
        row = Row([(-3, 1), (0, 1), (1, 1), (2, 1), (9, 1)])
        capacities = [(5, 2), (-2, 9), (1, 3)]
        expected = with_capacities(row, sorted(capacities))
        for order in itertools.permutations(capacities):
            self.assertEqual(with_capacities(row, order), expected)
            self.assertEqual(with_capacities(row, list(order)), expected)
        with_capacities(row, capacities)
        self.assertEqual(capacities, [(5, 2), (-2, 9), (1, 3)])
        after = with_capacities(row, capacities)
        capacities.clear()
        self.assertEqual(after, expected)

    def test_refused_rows_before_refused_capacities(self):
        for value in no_plain_rows() + [Row((), [(0, 2)])]:
            for capacities in ([], [(0, 2)], [(0, 1)], None):
                with self.assertRaises(BadRow) as caught:
                    with_capacities(value, capacities)
                self.assertEqual(caught.exception.field, "plain")

    def test_refused_capacities(self):
        for value in BAD_CAPACITIES + [one for one in any_values() if not is_row_like((), one)]:
            for row in (Row(), Row([(0, 1)])):
                with self.assertRaises(BadRow) as caught:
                    with_capacities(row, value)
                self.assertEqual(caught.exception.field, "capacities")


if __name__ == "__main__":
    unittest.main()
