import itertools
import random
import unittest

from helper import FAR, any_values, far_rows, no_plain_rows, sample_rows
from scooprow.errors import BadRow, BadTrains
from scooprow.exchanges import plain_form, shifted, with_capacities
from scooprow.rows import Row
from scooprow.sweeps import picked, sweep, unsweep
from scooprow.trains import cut, lengths, row_of, trains
from test_exchanges import MANY_CAPACITIES, slow_plain_form
from test_rows import BAD_CAPACITIES


def slow_cut(row):
    """A cut by the definition: every box moves by the pairs that are removed on its left."""
    full = [index for index, _ in row.contents]
    lasts = [index for index in full if index + 1 not in full]

    def moved(index):
        return index - 2 * sum(last < index for last in lasts)

    return (Row([(moved(index), 1) for index in full if index not in lasts]),
            [moved(last) for last in lasts])


def slow_trains(row):
    """The trains of a plain row by the definition."""
    if not row.contents:
        return []
    rest, offsets = slow_cut(row)
    full = [index for index, _ in rest.contents]
    for index in full:
        if index + 1 not in full:
            offsets.remove(index + 1)
    return sorted([(1, offset) for offset in offsets]
                  + [(length + 1, offset) for length, offset in slow_trains(rest)])


def plain_rows():
    """Rows without wide boxes, near and far ones."""
    return [row for row in sample_rows() + far_rows() if row.is_plain()] + [
        Row([(index * index, 1) for index in range(40)]),
        Row([(index, 1) for index in range(60) if index % 3]),
        Row([(index, 1) for index in range(47) if index % 7]),
        Row([(place * FAR // 4 + index, 1) for place in range(-4, 5) for index in range(0, 8, 2)]),
        Row([(place * FAR // 3 + index, 1) for place in range(-3, 4) for index in range(place + 4)]),
    ]


def small_rows():
    """All plain rows within ten boxes."""
    for many in range(11):
        for places in itertools.combinations(range(10), many):
            yield Row([(place, 1) for place in places])


def sample_trains():
    """Lists of trains of every kind, in no order."""
    source = random.Random(41)
    lists = [
        [], [(1, 0)], [(40, 0)], [(40, -FAR)], [(1, 5)] * 40, [(20, 5), (20, 5)], [(39, 0), (1, 0)],
        [(1, FAR), (1, -FAR), (1, 0)], [(2, FAR), (2, FAR), (3, -FAR), (1, FAR - 1)],
        [(8, 0), (7, 0), (6, 0), (5, 0), (4, 0), (4, 0), (3, 0), (2, 0), (1, 0)],
        [(1, index * FAR // 40) for index in range(40)], [(1, index) for index in range(40)],
        [(2, 2), (1, 2)], [(1, 3 * 10 ** 60), (2, -3 * 10 ** 60)],
    ]
    for spread in (0, 1, 3, 10, 40, FAR):
        for _ in range(12):
            found = []
            room = 40
            while room and source.random() < 0.9:
                length = source.randint(1, source.randint(1, min(room, 12)))
                found.append((length, source.randint(-spread, spread)))
                room -= length
            lists.append(found)
    return lists


class CutTest(unittest.TestCase):
    def test_small_cuts(self):
        self.assertEqual(cut(Row()), (Row(), []))
        self.assertEqual(cut(Row([(0, 1)])), (Row(), [0]))
        self.assertEqual(cut(Row([(-7, 1), (-6, 1), (-5, 1)])), (Row([(-7, 1), (-6, 1)]), [-5]))
        self.assertEqual(cut(Row([(0, 1), (1, 1), (3, 1)])), (Row([(0, 1)]), [1, 1]))
        self.assertEqual(cut(Row([(0, 1), (2, 1), (4, 1), (6, 1)])), (Row(), [0, 0, 0, 0]))
        self.assertEqual(cut(Row([(0, 1), (2, 1), (3, 1), (10, 1), (11, 1)])),
                         (Row([(0, 1), (6, 1)]), [0, 1, 7]))
        self.assertEqual(cut(row=Row([(5, 1)])), (Row(), [5]))

    def test_runs_that_meet(self):
        self.assertEqual(cut(Row([(0, 1), (1, 1), (3, 1), (4, 1)])), (Row([(0, 1), (1, 1)]), [1, 2]))
        self.assertEqual(cut(Row([(0, 1), (1, 1), (4, 1), (5, 1)])), (Row([(0, 1), (2, 1)]), [1, 3]))

    def test_forty_items(self):
        self.assertEqual(cut(Row([(index, 1) for index in range(40)])),
                         (Row([(index, 1) for index in range(39)]), [39]))
        self.assertEqual(cut(Row([(2 * index, 1) for index in range(40)])), (Row(), [0] * 40))

    def test_runs_far_apart(self):
        self.assertEqual(cut(Row([(-FAR, 1), (-FAR + 1, 1), (FAR - 1, 1), (FAR, 1)])),
                         (Row([(-FAR, 1), (FAR - 3, 1)]), [-FAR + 1, FAR - 2]))

    def test_by_the_definition(self):
        for row in plain_rows() + list(small_rows()):
            self.assertEqual(cut(row), slow_cut(row))

    def test_kinds_of_the_result(self):
        for row in plain_rows():
            contents = row.contents
            result = cut(row)
            self.assertEqual([type(part) for part in (result, *result)], [tuple, Row, list])
            self.assertEqual(result[1], sorted(result[1]))
            self.assertEqual(len(result[1]) + result[0].total(), row.total())
            result[1].append(3)
            self.assertEqual(cut(row), slow_cut(row))
            self.assertEqual(row.contents, contents)

    def test_no_plain_rows(self):
        for value in no_plain_rows() + [Row((), [(0, 2)]), Row([(5, 1)], [(0, 2)])]:
            with self.assertRaises(BadRow) as caught:
                cut(value)
            self.assertEqual(caught.exception.field, "plain")


class TrainsTest(unittest.TestCase):
    def test_small_rows(self):
        self.assertEqual(trains(Row()), [])
        self.assertEqual(trains(Row((), [(3, 4)])), [])
        self.assertEqual(trains(Row([(4, 1)])), [(1, 4)])
        self.assertEqual(trains(Row([(0, 1), (1, 1)])), [(2, 0)])
        self.assertEqual(trains(Row([(0, 1), (2, 1)])), [(1, 0), (1, 0)])
        self.assertEqual(trains(Row([(0, 1), (1, 1), (3, 1), (4, 1)])), [(1, 1), (3, 0)])
        self.assertEqual(trains(Row([(index - 9, 1) for index in range(40)])), [(40, -9)])
        self.assertEqual(trains(Row([(2 * index, 1) for index in range(40)])), [(1, 0)] * 40)
        self.assertEqual(trains(Row([(-FAR, 1), (FAR, 1)])), [(1, -FAR), (1, FAR - 2)])
        self.assertEqual(trains(Row([(0, 2)], [(0, 3)])), [(2, -1)])
        self.assertEqual(trains(row=Row([(3, 1)], [(0, 3)])), [(1, 3)])

    def test_by_the_definition(self):
        for row in plain_rows() + list(small_rows()):
            self.assertEqual(trains(row), slow_trains(row))
        for row in sample_rows():
            self.assertEqual(trains(row), slow_trains(slow_plain_form(row)))
        for row in far_rows():
            self.assertEqual(trains(row), slow_trains(plain_form(row)))

    def test_ascending_pairs_in_a_new_list(self):
        for row in sample_rows() + far_rows():
            found = trains(row)
            self.assertEqual(found, sorted(found))
            self.assertEqual({type(part) for part in found} - {tuple}, set())
            self.assertIs(type(found), list)
            again = list(found)
            found.append((1, 0))
            self.assertEqual(trains(row), again)
            self.assertEqual(sum(length for length, _ in again), row.total())

    def test_different_rows_have_different_trains(self):
        rows = list(small_rows())
        self.assertEqual(len({tuple(trains(row)) for row in rows}), len(rows))
        boxes = [(0, 1), (1, 1), (1, 2), (2, 1), (2, 2), (2, 3), (3, 1), (4, 1)]
        wide = []
        for many in range(6):
            for contents in itertools.combinations(boxes, many):
                if len({index for index, _ in contents}) == many:
                    wide.append(Row(contents, [(1, 2), (2, 3)]))
        self.assertEqual(len({tuple(trains(row)) for row in wide}), len(wide))

    def test_a_sweep_moves_each_train(self):
        for row in sample_rows() + far_rows():
            found = trains(row)
            for capacity in (1, 2, 3, 9, 99):
                self.assertEqual(trains(sweep(row, capacity)),
                                 sorted((length, offset + min(capacity, length)) for length, offset in found))
                self.assertEqual(trains(unsweep(row, capacity)),
                                 sorted((length, offset - min(capacity, length)) for length, offset in found))

    def test_what_a_sweep_picks_up(self):
        for row in sample_rows() + far_rows():
            for capacity in (1, 2, 3, 4, 9, 99):
                self.assertEqual(picked(row, capacity), sum(min(capacity, length) for length in lengths(row)))

    def test_a_shift_changes_none(self):
        for row in sample_rows() + far_rows():
            for index, _ in row.capacities:
                if index > -60:
                    self.assertEqual(trains(shifted(row, index)), trains(row))

    def test_wide_boxes_change_none(self):
        for row in plain_rows():
            for capacities in MANY_CAPACITIES:
                self.assertEqual(trains(with_capacities(row, capacities)), trains(row))


class LengthsTest(unittest.TestCase):
    def test_small_rows(self):
        self.assertEqual(lengths(Row()), [])
        self.assertEqual(lengths(Row((), [(1, 2)])), [])
        self.assertEqual(lengths(Row([(0, 1), (1, 1), (3, 1)])), [2, 1])
        self.assertEqual(lengths(row=Row([(0, 1), (2, 1), (5, 1), (6, 1), (7, 1)])), [3, 1, 1])
        self.assertEqual(lengths(Row([(index, 1) for index in range(40)])), [40])

    def test_descending(self):
        for row in sample_rows() + far_rows():
            found = lengths(row)
            self.assertIs(type(found), list)
            self.assertEqual(found, sorted((length for length, _ in trains(row)), reverse=True))
            found.append(1)
            self.assertEqual(sum(lengths(row)), row.total())

    def test_no_sweep_changes_them(self):
        for row in sample_rows() + far_rows():
            for capacity in (1, 2, 5, 99):
                self.assertEqual(lengths(sweep(row, capacity)), lengths(row))
                self.assertEqual(lengths(unsweep(row, capacity)), lengths(row))


class RowOfTest(unittest.TestCase):
    def test_small_rows(self):
        self.assertEqual(row_of([]), Row())
        self.assertEqual(row_of(()), Row())
        self.assertEqual(row_of([], [(4, 2)]), Row((), [(4, 2)]))
        self.assertEqual(row_of([(1, 4)]), Row([(4, 1)]))
        self.assertEqual(row_of([(3, 4)]), Row([(4, 1), (5, 1), (6, 1)]))
        self.assertEqual(row_of([(1, 0), (1, 0)]), Row([(0, 1), (2, 1)]))
        self.assertEqual(row_of([(2, 2), (1, 2)]), Row([(2, 1), (4, 1), (5, 1)]))
        self.assertEqual(row_of([(2, -1)], [(0, 3)]), Row([(0, 2)], [(0, 3)]))
        self.assertEqual(row_of([(1, FAR), (1, -FAR)]), Row([(-FAR, 1), (FAR + 2, 1)]))

    def test_arguments_by_name(self):
        self.assertEqual(row_of(capacities=((0, 3),), trains=((2, -1),)), Row([(0, 2)], [(0, 3)]))
        self.assertEqual(row_of(trains=[(1, 4)]), Row([(4, 1)]))

    def test_forty_items(self):
        self.assertEqual(row_of([(40, -9)]), Row([(index - 9, 1) for index in range(40)]))
        self.assertEqual(row_of([(1, 0)] * 40), Row([(2 * index, 1) for index in range(40)]))
        self.assertEqual(row_of([(20, 0), (20, 0)]).total(), 40)

    def test_inverse_of_trains(self):
        for row in sample_rows() + far_rows() + plain_rows() + list(small_rows()):
            self.assertEqual(row_of(trains(row), row.capacities), row)

    def test_trains_is_its_inverse(self):
        source = random.Random(42)
        for found in sample_trains():
            ascending = sorted(found)
            for capacities in source.sample(MANY_CAPACITIES, 4) + [()]:
                row = row_of(found, capacities)
                self.assertEqual(row.capacities, tuple(sorted(capacities)))
                self.assertEqual(trains(row), ascending)

    def test_in_any_order(self):
        source = random.Random(43)
        for found in sample_trains():
            expected = row_of(found)
            for _ in range(3):
                source.shuffle(found)
                self.assertEqual(row_of(found), expected)
                self.assertEqual(row_of(tuple(found)), expected)

    def test_arguments_stay(self):
        found = [(2, 5), (1, 7), (3, -4)]
        capacities = [(3, 2), (-1, 4)]
        row = row_of(found, capacities)
        self.assertEqual((found, capacities), ([(2, 5), (1, 7), (3, -4)], [(3, 2), (-1, 4)]))
        contents = row.contents
        found.clear()
        capacities.clear()
        self.assertEqual((row.contents, row.capacities), (contents, ((-1, 4), (3, 2))))

    def test_refused_trains(self):
        bad = [[(41, 0)], [(1, 0)] * 41, [(40, 0), (1, 0)], [(20, 0), (21, 0)], [(0, 0)], [(-1, 0)],
               [(1, 0), (0, 5)], [(3, 0), (-2, 0)], [(45, 0), (-5, 0)], [(1, 0), (10 ** 3999, 0)],
               [[1, 0]], [(1,)], [(1, 0, 0)], [(1, "0")], [("1", 0)], [(True, 0)], [(1, False)], [1, 0],
               [(1, 0), None], (1, 0), {1: 0}, {(1, 0): (1, 0)}, "", "10", [(1, (0,))], [(None, 0)]]
        fitting = ["[]", "()", "((1, 0), (1, 0))"]
        values = [value for value in any_values() if not isinstance(value, (list, tuple))
                  or repr(value) not in fitting]
        self.assertEqual(len(values), len(any_values()) - len(fitting))
        for value in bad + values:
            for capacities in ([], [(0, 2)], None, [(0, 1)], [(61, 2)], {}):
                self.assertRaises(BadTrains, row_of, value, capacities)
            self.assertRaises(BadTrains, row_of, value)

    def test_refused_capacities(self):
        fitting = ["[]", "()", "[(0, 2)]", "[(0, 2), (60, 9)]", "((1, 2), (-60, 3))"]
        values = [value for value in any_values() if not isinstance(value, (list, tuple))
                  or repr(value) not in fitting]
        self.assertEqual(len(values), len(any_values()) - len(fitting))
        for value in BAD_CAPACITIES + values:
            for found in ([], [(1, 0)], [(3, FAR), (3, -FAR)]):
                with self.assertRaises(BadRow) as caught:
                    row_of(found, value)
                self.assertEqual(caught.exception.field, "capacities")


if __name__ == "__main__":
    unittest.main()
