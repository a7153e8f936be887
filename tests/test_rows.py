import copy
import unittest

from helper import FAR, any_values, far_rows, no_integers, sample_rows
from scooprow.errors import BadIndex, BadRow
from scooprow.rows import Row, is_row_like

# Both of these are values for capacities, whatever the contents.
GOOD_CAPACITIES = [
    [], (), [(0, 3)], ((0, 3),), [(5, 2), (0, 9)], ((5, 2), (0, 9)), [(-60, 2), (60, 9)],
    [(-60, 9), (60, 2)], [(index, 2) for index in range(6)],
]
BAD_CAPACITIES = [
    [(index, 2) for index in range(7)], tuple((index, 9) for index in range(7)),
    [(-61, 2)], [(61, 2)], [(FAR, 2)], [(0, 1)], [(0, 10)], [(0, 0)], [(0, -2)], [(0, 10 ** 3999)],
    [(0, 2), (0, 2)], [(0, 2), (0, 3)], [(0, 2), (1, 2), (0, 2)], [[0, 2]], [(0, 2), [1, 2]],
    [(0,)], [(0, 2, 2)], [0, 2], (0, 2), [(0, True)], [(True, 2)], [(False, 2)], [("0", 2)],
    [(0, "2")], [(0, None)], [None], [(0, 2), None], {0: 2}, {(0, 2): 1}, "", "02", None, 0, True,
    [((0, 2), (1, 2))], [([], 2)], [(0, {})],
]
# These are values for contents where the box at 0 alone is wide, of capacity 3.
GOOD_CONTENTS = [
    [], (), [(0, 1)], [(0, 3)], ((0, 3), (1, 1)), [(5, 1), (-5, 1), (0, 2)], [(FAR, 1), (-FAR, 1)],
    [(10 ** 3999, 1)], [(index, 1) for index in range(1, 41)],
    [(index, 1) for index in range(1, 38)] + [(0, 3)],
]
BAD_CONTENTS = [
    [(0, 0)], [(1, 0)], [(0, 4)], [(1, 2)], [(0, -1)], [(1, -1)], [(1, 1), (1, 1)], [(0, 1), (0, 2)],
    [(index, 1) for index in range(1, 42)], [(index, 1) for index in range(1, 39)] + [(0, 3)],
    [[0, 1]], [(0, 1), [1, 1]], [(0,)], [(0, 1, 1)], [0, 1], (0, 1), [(0, True)], [(True, 1)],
    [(False, 1)], [(0, "1")], [("0", 1)], [(0, None)], [(None, 1)], [(0, [1])], [([0], 1)], [None],
    {0: 1}, {(0, 1): 1}, {}, "", "ab", None, 0, True, [((0, 1), (1, 1))], [(0, 10 ** 3999)],
]


def refused_field(contents, capacities):
    """The field of the error that Row raises, or None."""
    try:
        Row(contents, capacities)
    except BadRow as error:
        return error.field
    return None


class RowTest(unittest.TestCase):
    def test_contents_and_capacities_are_ascending_tuples(self):
        contents = [(3, 1), (0, 2), (-7, 1), (FAR, 1)]
        capacities = [(60, 9), (0, 3), (-60, 2)]
        for row in (Row(contents, capacities), Row(tuple(contents), tuple(capacities)),
                    Row(tuple(contents), capacities), Row(contents[::-1], capacities[::-1]),
                    Row(capacities=capacities, contents=contents)):
            self.assertEqual(row.contents, ((-7, 1), (0, 2), (3, 1), (FAR, 1)))
            self.assertEqual(row.capacities, ((-60, 2), (0, 3), (60, 9)))
            self.assertEqual((type(row.contents), type(row.capacities)), (tuple, tuple))
            self.assertTrue(all(type(pair) is tuple for pair in row.contents + row.capacities))

    def test_left_out_arguments(self):
        for row in (Row(), Row([]), Row((), ()), Row(capacities=[]), Row(contents=())):
            self.assertEqual((row.contents, row.capacities, row.total()), ((), (), 0))
        self.assertEqual(Row(capacities=[(0, 2)]).capacities, ((0, 2),))
        self.assertEqual(Row(contents=[(0, 1)]).contents, ((0, 1),))

    def test_held_and_capacity(self):
        row = Row([(3, 1), (0, 2), (60, 9)], [(0, 3), (60, 9), (-60, 2)])
        self.assertEqual([row.held(index) for index in (-60, -1, 0, 1, 3, 60, FAR)], [0, 0, 2, 0, 1, 9, 0])
        self.assertEqual([row.capacity(index) for index in (-60, -1, 0, 1, 3, 60, FAR)],
                         [2, 1, 3, 1, 1, 9, 1])
        self.assertEqual((row.held(index=3), row.capacity(index=0)), (1, 3))
        self.assertEqual((row.held(10 ** 3999), row.capacity(-10 ** 3999)), (0, 1))

    def test_held_and_capacity_refuse_what_is_no_integer(self):
        row = Row([(0, 1), (1, 2)], [(1, 2), (0, 3)])
        for value in no_integers():
            self.assertRaises(BadIndex, row.held, value)
            self.assertRaises(BadIndex, row.capacity, value)
        self.assertEqual(row, Row([(0, 1), (1, 2)], [(1, 2), (0, 3)]))

    def test_total_and_is_plain(self):
        self.assertEqual(Row([(0, 3), (1, 1), (FAR, 1)], [(0, 4)]).total(), 5)
        self.assertEqual(Row([(index, 1) for index in range(40)]).total(), 40)
        self.assertIs(Row([(0, 1)]).is_plain(), True)
        self.assertIs(Row().is_plain(), True)
        self.assertIs(Row([(0, 1)], [(5, 2)]).is_plain(), False)

    def test_good_and_bad_capacities(self):
        for value in GOOD_CAPACITIES:
            self.assertEqual(Row((), value).capacities, tuple(sorted(value)))
            self.assertIs(is_row_like((), value), True)
        for value in BAD_CAPACITIES:
            self.assertEqual(refused_field((), value), "capacities", value)
            self.assertIs(is_row_like((), value), False)

    def test_good_and_bad_contents(self):
        for value in GOOD_CONTENTS:
            self.assertEqual(Row(value, [(0, 3)]).contents, tuple(sorted(value)))
            self.assertIs(is_row_like(value, [(0, 3)]), True)
        for value in BAD_CONTENTS:
            self.assertEqual(refused_field(value, [(0, 3)]), "contents", value)
            self.assertIs(is_row_like(value, [(0, 3)]), False)

    def test_capacities_are_looked_at_first(self):
        for contents in BAD_CONTENTS:
            for capacities in BAD_CAPACITIES:
                self.assertEqual(refused_field(contents, capacities), "capacities")

    def test_forty_items_in_wide_boxes(self):
        capacities = [(index, 9) for index in range(6)]
        full = [(index, 8) for index in range(5)]
        self.assertEqual(Row(full, capacities).total(), 40)
        self.assertEqual(refused_field(full + [(5, 1)], capacities), "contents")
        self.assertEqual(refused_field(full + [(7, 1)], capacities), "contents")

    def test_is_row_like_agrees_with_row(self):
        firsts = any_values() + GOOD_CONTENTS + BAD_CONTENTS
        seconds = any_values() + GOOD_CAPACITIES + BAD_CAPACITIES
        for contents in firsts:
            for capacities in seconds:
                expected = refused_field(contents, capacities) is None
                self.assertIs(is_row_like(contents, capacities), expected, (contents, capacities))
        self.assertIs(is_row_like(capacities=[(0, 2)], contents=[(0, 2)]), True)
        self.assertIs(is_row_like(capacities=[(0, 2)], contents=[(0, 3)]), False)

    def test_equality(self):
        row = Row([(0, 1), (1, 2)], [(1, 2)])
        self.assertTrue(row == Row(((1, 2), (0, 1)), ((1, 2),)))
        self.assertFalse(row != Row(((1, 2), (0, 1)), ((1, 2),)))
        for other in (Row([(0, 1), (1, 2)], [(1, 3)]), Row([(0, 1), (1, 1)], [(1, 2)]), Row(),
                      Row([(0, 1), (1, 2)], [(1, 2), (7, 2)]), Row([(0, 1), (1, 1)])):
            self.assertFalse(row == other)
            self.assertTrue(row != other)
        self.assertTrue(Row() == Row())
        self.assertFalse(Row() == Row((), [(0, 2)]))

    def test_a_row_equals_no_other_value(self):
        for row in (Row(), Row([(0, 1)]), Row([(0, 1)], [(0, 2)])):
            others = [value for value in any_values() if not isinstance(value, Row)]
            for value in others + [row.contents, (row.contents, row.capacities)]:
                self.assertFalse(row == value)
                self.assertFalse(value == row)
                self.assertTrue(row != value)

    def test_properties_are_read_only(self):
        row = Row([(0, 1)], [(5, 2)])
        with self.assertRaises(AttributeError):
            row.contents = ()
        with self.assertRaises(AttributeError):
            row.capacities = ()
        self.assertEqual(row, Row([(0, 1)], [(5, 2)]))

    def test_arguments_stay_and_later_changes_have_no_effect(self):
        contents = [(3, 1), (0, 2)]
        capacities = [(5, 2), (0, 3)]
        row = Row(contents, capacities)
        is_row_like(contents, capacities)
        self.assertEqual((contents, capacities), ([(3, 1), (0, 2)], [(5, 2), (0, 3)]))
        contents.append((9, 1))
        capacities.clear()
        self.assertEqual((row.contents, row.capacities), (((0, 2), (3, 1)), ((0, 3), (5, 2))))
        self.assertEqual((row.held(9), row.capacity(0), row.total()), (0, 3, 3))

    def test_refused_values_stay(self):
        for values in (BAD_CONTENTS, BAD_CAPACITIES):
            before = copy.deepcopy(values)
            for value in values:
                refused_field(value, value)
                is_row_like(value, value)
            self.assertEqual(values, before)

    def test_rows_of_all_kinds_are_made_again_from_their_properties(self):
        for row in sample_rows() + far_rows():
            self.assertEqual(Row(row.contents, row.capacities), row)
            self.assertEqual(row.total(), sum(count for _, count in row.contents))


if __name__ == "__main__":
    unittest.main()
