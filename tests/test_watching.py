import itertools
import random
import unittest

from helper import FAR, any_values, far_rows, is_integer, no_integers, sample_rows
from scooprow.advance import advance
from scooprow.errors import (
    BadCapacity, BadIndex, BadLimits, BadLook, BadNumber, BadVector, Crowded, Inconsistent, ScoopError)
from scooprow.rows import Row
from scooprow.sweeps import sweep
from scooprow.watching import Watch

GOOD_LIMITS = [[(1, 1)], [(99, 9)], ((1, 9), (99, 1)), [(1, 2), (3, 1), (4, 1), (9, 2)], [(1, 3), (2, 5), (40, 6)]]
BAD_LIMITS = [
    [], (), [(1, 0)], [(1, 10)], [(0, 1)], [(100, 1)], [(1, -1)], [(2, 1), (1, 1)], [(1, 1), (1, 2)], [(1, 1)] * 2,
    [(1, 1), (2, 1), (3, 1), (4, 1), (5, 1)], [[1, 1]], [(1,)], [(1, 1, 1)], [(True, 1)], [(1, True)], [(1, False)],
    [(1, None)], [("1", 1)], (1, 1), {1: 1}, "11", 5, [(1, 1), 2], [(1, 1), None], [(1, 1), (2, 10)],
    [(10 ** 3999, 1)], [(1, 10 ** 3999)], [Row()],
]


class SlowWatch:
    """A watch by single sweeps and all stretches; errors are told as words."""

    def __init__(self, row, limits):
        self.capacities = [capacity for capacity, _ in limits]
        zero = tuple(0 for _ in limits)
        self.rows = {zero: row}
        self.stretches = list(itertools.product(*[range(limit + 1) for _, limit in limits]))
        self.now = [zero]
        self.earlier = []

    def row(self, vector):
        if vector not in self.rows:
            place = [many > 0 for many in vector].index(True)
            before = vector[:place] + (vector[place] - 1,) + vector[place + 1:]
            self.rows[vector] = sweep(self.row(before), self.capacities[place])
        return self.rows[vector]

    def observe(self, agrees):
        sums = sorted({tuple(map(sum, zip(vector, stretch))) for vector in self.now for stretch in self.stretches})
        if len(sums) > 1000:
            return "Crowded"
        possible = [vector for vector in sums if agrees(self.row(vector))]
        if not possible:
            return ("Inconsistent", len(self.earlier))
        self.earlier.append(self.now)
        self.now = possible
        return len(possible)

    def outcomes(self):
        found = []
        for vector in self.now:
            if self.row(vector) not in found:
                found.append(self.row(vector))
        return found

    def counts_at(self, index):
        return sorted({self.row(vector).held(index) for vector in self.now})

    def worst(self, index):
        counts = [self.row(vector).held(index) for vector in self.now]
        return max(counts.count(count) for count in counts)

    def probe(self):
        rows = self.outcomes()
        if len(rows) == 1:
            return None
        indexes = {index + more for row in rows for index, _ in row.contents for more in (-1, 0, 1)}
        return min((self.worst(index), index) for index in indexes)[1]


def told(action, *given):
    """What the call returns, or the word and the number of its error."""
    try:
        return action(*given)
    except Inconsistent as error:
        return ("Inconsistent", error.n)
    except ScoopError as error:
        return type(error).__name__


def state(watch):
    """All that a watch tells."""
    histories = [watch.history(vector) for vector in watch.possible()]
    return (watch.possible(), watch.outcomes(), watch.many(), watch.probe(), watch.counts_at(0), histories)


def random_limits(source):
    capacities = sorted(source.sample([1, 2, 3, 4, 5, 9, 50, 99], source.randint(1, 4)))
    return [(capacity, source.randint(1, source.choice([1, 2, 3]))) for capacity in capacities]


def random_look(source, row):
    """Some boxes of a row with their numbers of items, sometimes a wrong one."""
    near = [index + more for index, _ in row.contents + ((0, 1),) for more in (-1, 0, 1)]
    indexes = source.sample(sorted(set(near)), source.randint(0, 3))
    look = [(index, row.held(index)) for index in indexes]
    if look and source.random() < 0.15:
        look[0] = (indexes[0], source.randint(0, row.capacity(indexes[0])))
    return look


class WatchTest(unittest.TestCase):
    def check_state(self, watch, slow, limits):
        self.assertEqual(repr(watch.possible()), repr(slow.now))
        self.assertEqual(watch.outcomes(), slow.outcomes())
        self.assertEqual(watch.many(), len(slow.earlier))
        self.assertEqual(watch.probe(), slow.probe())
        for index in [0, FAR] + [index for index, _ in slow.row(slow.now[-1]).contents][:4]:
            self.assertEqual(watch.counts_at(index), slow.counts_at(index))
        for place, (capacity, _) in enumerate(limits):
            numbers = [vector[place] for vector in slow.now]
            for low, high in ((0, 1), (1, 2), (min(numbers), max(numbers)), (max(numbers) + 1, FAR), (2, 1)):
                inside = {low <= number <= high for number in numbers}
                self.assertEqual(watch.sure(capacity, low, high),
                                 "open" if len(inside) == 2 else "yes" if True in inside else "no")
        for vector in slow.now[::7]:
            self.check_history(watch.history(vector), vector, slow)

    def check_history(self, history, vector, slow):
        self.assertEqual((type(history), len(history)), (list, len(slow.earlier)))
        total = slow.earlier[0][0] if slow.earlier else slow.now[0]
        for k, stretch in enumerate(history):
            self.assertIn(stretch, slow.stretches)
            self.assertEqual({type(part) for part in stretch}, {int})
            total = tuple(map(sum, zip(total, stretch)))
            self.assertIn(total, (slow.earlier + [slow.now])[k + 1])
        self.assertEqual(total, vector)

    def test_as_all_stretches_by_single_sweeps(self):
        source = random.Random(90)
        seen = {}
        for row in sample_rows() + far_rows():
            limits = random_limits(source)
            watch, slow, true = Watch(row, limits), SlowWatch(row, limits), row
            self.check_state(watch, slow, limits)
            for _ in range(source.randint(1, 5)):
                for capacity, limit in limits:
                    true = advance(true, {capacity: source.randint(0, limit)})
                if source.random() < 0.25:
                    expected = slow.observe(lambda now: now == true)
                    found = told(watch.look_all, true)
                else:
                    look = random_look(source, true)
                    expected = slow.observe(lambda now: all(now.held(index) == count for index, count in look))
                    found = told(watch.look, source.choice((list, tuple))(look))
                self.assertEqual(repr(found), repr(expected))
                self.check_state(watch, slow, limits)
                word = found if isinstance(found, str) else type(found).__name__
                seen[word] = seen.get(word, 0) + 1
        self.assertGreater(min(seen["int"], seen["tuple"], seen["Crowded"]), 5)

    def test_small_watch(self):
        watch = Watch(limits=[(1, 2), (3, 1)], row=Row([(0, 1)]))
        self.assertEqual((watch.possible(), watch.many(), watch.probe()), ([(0, 0)], 0, None))
        self.assertEqual((watch.outcomes(), watch.history((0, 0))), ([Row([(0, 1)])], []))
        self.assertEqual(watch.look(counts=[(2, 0)]), 4)
        self.assertEqual(watch.possible(), [(0, 0), (0, 1), (1, 0), (2, 1)])
        self.assertEqual(watch.outcomes(), [Row([(0, 1)]), Row([(1, 1)]), Row([(3, 1)])])
        self.assertEqual((watch.counts_at(index=1), watch.counts_at(2), watch.counts_at(-7)), ([0, 1], [0], [0]))
        self.assertEqual(watch.history(vector=(2, 1)), [(2, 1)])
        self.assertEqual([watch.sure(1, 0, 2), watch.sure(1, 0, 1), watch.sure(capacity=3, low=2, high=9)],
                         ["yes", "open", "no"])
        self.assertEqual(watch.look_all(row=Row([(3, 1)])), 3)
        self.assertEqual(watch.possible(), [(1, 2), (2, 1), (3, 0)])

    def test_a_whole_row(self):
        row = Row([(0, 1), (1, 1), (3, 1)])
        watch = Watch(row, [(1, 4), (2, 4)])
        self.assertEqual(watch.look_all(advance(row, {1: 3, 2: 2})), 1)
        self.assertEqual((watch.possible(), watch.history((3, 2))), ([(3, 2)], [(3, 2)]))
        with self.assertRaises(Inconsistent) as caught:
            watch.look_all(row)
        self.assertEqual(caught.exception.n, 1)
        self.assertEqual((watch.look_all(advance(row, {1: 4, 2: 6})), watch.possible()), (1, [(4, 6)]))

    def test_rows_without_items(self):
        for capacities in ((), [(0, 3)]):
            watch = Watch(Row((), capacities), [(1, 1), (5, 2)])
            self.assertEqual((watch.look([]), watch.look([(0, 0)]), watch.look_all(Row((), capacities))), (6, 15, 28))
            self.assertEqual((watch.outcomes(), watch.probe()), ([Row((), capacities)], None))
            self.assertEqual((watch.counts_at(0), watch.sure(5, 0, 6), watch.sure(5, 6, 6)), ([0], "yes", "open"))
            self.assertRaises(Inconsistent, watch.look, [(0, 1)])

    def test_empty_looks(self):
        watch = Watch(Row([(FAR, 1)], [(0, 2)]), [(2, 3)])
        self.assertEqual([watch.look([]), watch.look(()), watch.look([]), watch.many()], [4, 7, 10, 3])
        self.assertEqual(sum(stretch[0] for stretch in watch.history((9,))), 9)
        self.assertEqual(watch.history((9,)), [(3,), (3,), (3,)])

    def test_carriers_that_cannot_be_told_apart(self):
        watch = Watch(Row([(0, 1), (1, 1)]), [(2, 1), (3, 1), (98, 1), (99, 1)])
        self.assertEqual(watch.look_all(Row([(4, 1), (5, 1)])), 6)
        self.assertEqual((watch.probe(), watch.outcomes()), (None, [Row([(4, 1), (5, 1)])]))
        self.assertEqual([watch.sure(2, 0, 1), watch.sure(99, 1, 1)], ["yes", "open"])

    def test_the_least_index_of_several(self):
        watch = Watch(Row([(0, 1)]), [(1, 2)])
        watch.look([])
        # Any of the boxes 0, 1 and 2 leaves two of three vectors.
        self.assertEqual(watch.probe(), 0)
        watch = Watch(Row([(-FAR, 1), (5, 1), (6, 1)]), [(1, 1), (2, 1)])
        watch.look([])
        self.assertEqual(watch.probe(), -FAR + 1)

    def test_the_box_that_tells_most(self):
        watch = Watch(Row([(0, 3), (9, 1)], [(0, 3), (4, 3)]), [(1, 3), (2, 2), (3, 1)])
        watch.look([])
        slow = SlowWatch(Row([(0, 3), (9, 1)], [(0, 3), (4, 3)]), [(1, 3), (2, 2), (3, 1)])
        slow.observe(lambda now: True)
        worsts = {index: slow.worst(index) for index in range(-5, 60)}
        self.assertEqual(worsts[watch.probe()], min(worsts.values()))
        self.assertEqual(watch.probe(), min(index for index in worsts if worsts[index] == min(worsts.values())))


    def test_boxes_with_several_counts(self):
        for contents, capacities, limits, index in (
                ([(0, 8), (4, 1)], [(0, 9), (5, 7)], [(99, 3)], 4),
                ([(0, 9), (4, 1)], [(0, 9), (5, 8)], [(50, 1), (99, 2)], 4),
                ([(0, 7), (1, 1)], [(0, 9), (5, 2)], [(4, 1), (50, 1)], 0),
                ([(0, 8), (4, 1)], [(0, 9), (5, 4)], [(3, 1), (4, 2)], 0)):
            row = Row(contents, capacities)
            watch, slow = Watch(row, limits), SlowWatch(row, limits)
            watch.look([])
            slow.observe(lambda now: True)
            self.assertEqual((watch.probe(), slow.probe()), (index, index))
            self.assertGreater(len(watch.counts_at(5)), 2)


class LimitsTest(unittest.TestCase):
    def test_good_limits(self):
        for limits in GOOD_LIMITS:
            watch = Watch(Row([(0, 1)]), limits)
            self.assertEqual(watch.possible(), [tuple(0 for _ in limits)])

    def test_refused_limits(self):
        for value in BAD_LIMITS + any_values():
            self.assertRaises(BadLimits, Watch, Row(), value)
            self.assertRaises(BadLimits, Watch, Row([(0, 1)]), value)

    def test_limits_changed_afterwards(self):
        limits = [(1, 2)]
        watch = Watch(Row([(0, 1)]), limits)
        limits.append((2, 2))
        limits[0] = (1, 9)
        self.assertEqual((watch.look([]), watch.possible()), (3, [(0,), (1,), (2,)]))
        self.assertRaises(BadCapacity, watch.sure, 2, 0, 1)

    def test_exactly_1000_vectors(self):
        watch = Watch(Row([(0, 1)]), [(1, 9), (2, 9), (3, 9)])
        self.assertEqual(watch.look([]), 1000)
        self.assertRaises(Crowded, watch.look, [])
        self.assertEqual((watch.many(), len(watch.possible())), (1, 1000))
        watch = Watch(Row(), [(1, 3), (2, 3), (3, 3)])
        self.assertEqual([watch.look([]), watch.look([]), watch.look([])], [64, 343, 1000])
        watch = Watch(Row(), [(1, 4), (2, 4), (3, 4), (4, 7)])
        self.assertEqual(watch.look([]), 1000)

    def test_1001_vectors(self):
        watch = Watch(Row(), [(1, 3), (2, 5), (3, 6)])
        self.assertEqual(watch.look([]), 168)
        self.assertEqual(told(watch.look, []), "Crowded")
        self.assertEqual(told(watch.look_all, Row()), "Crowded")
        self.assertEqual((watch.many(), len(watch.possible())), (1, 168))
        self.assertRaises(Crowded, Watch(Row(), [(1, 9), (2, 9), (3, 9), (4, 1)]).look, [])

    def test_crowded_sums_of_few_vectors(self):
        row = Row([(0, 1), (1, 1), (3, 1)])
        watch = Watch(row, [(1, 9), (2, 9), (3, 9)])
        self.assertEqual(watch.look_all(advance(row, {1: 9, 2: 3})), 4)
        slow = SlowWatch(row, [(1, 9), (2, 9), (3, 9)])
        slow.observe(lambda now: now == advance(row, {1: 9, 2: 3}))
        self.assertEqual(told(watch.look, [(0, 0)]), slow.observe(lambda now: now.held(0) == 0))


class RefusedTest(unittest.TestCase):
    ROW = Row([(0, 2), (1, 1)], [(0, 3), (5, 2)])
    LIMITS = [(1, 2), (4, 3)]
    BAD_LOOKS = [
        [(0, -1)], [(0, 4)], [(1, 2)], [(5, 3)], [(0, 1), (0, 1)], [(0, 1), (0, 2)], [[0, 1]], [(0,)], [(0, 1, 2)],
        [(True, 0)], [(0, True)], [(1, False)], [("0", 1)], [(0, None)], [(None, 0)], (0, 1), {0: 1}, {}, "", "01", 0,
        [(0, 1), None], [(0, 1), 5], [((0, 1), 0)], [(FAR, 2)], [(0, 10 ** 3999)], [Row()], Row(),
    ]

    def watch(self):
        watch = Watch(self.ROW, self.LIMITS)
        watch.look([(2, 0)])
        return watch

    def refused(self, error, watch, action, *given):
        before = state(watch)
        with self.assertRaises(error) as caught:
            action(*given)
        self.assertEqual(state(watch), before)
        return caught.exception

    def test_bad_looks(self):
        watch = self.watch()
        good = ([], (), [(0, 1)], ((0, 1),), [(0, 2)])
        for value in self.BAD_LOOKS + [value for value in any_values() if repr(value) not in map(repr, good)]:
            self.refused(BadLook, watch, watch.look, value)

    def test_looks_that_are_taken(self):
        for value in ([(0, 0)], [(0, 3)], [(10 ** 3999, 0)], ((5, 2),), [(1, 0), (0, 0), (-FAR, 0)]):
            found = told(self.watch().look, value)
            self.assertNotEqual(found, "BadLook")

    def test_bad_whole_rows(self):
        watch = self.watch()
        for value in any_values() + [Row([(0, 2)], [(0, 3)]), Row([(0, 2)], [(0, 3), (5, 3)]), self.ROW.contents]:
            self.refused(BadLook, watch, watch.look_all, value)

    def test_inconsistent(self):
        watch = self.watch()
        error = self.refused(Inconsistent, watch, watch.look, [(0, 3), (1, 1), (2, 1)])
        self.assertEqual(error.n, 1)
        self.assertEqual(self.refused(Inconsistent, watch, watch.look_all, advance(self.ROW, {1: -1})).n, 1)
        fresh = Watch(self.ROW, self.LIMITS)
        with self.assertRaises(Inconsistent) as caught:
            fresh.look([(FAR, 1)])
        self.assertEqual((caught.exception.n, fresh.many(), fresh.possible()), (0, 0, [(0, 0)]))

    def test_which_error_comes_first(self):
        watch = Watch(Row([(0, 1)], [(3, 2)]), [(1, 9), (2, 9), (3, 9), (4, 9)])
        self.assertEqual(told(watch.look, [(3, 3)]), "BadLook")
        self.assertEqual(told(watch.look_all, Row([(0, 1)])), "BadLook")
        self.assertEqual(told(watch.look, [(0, 1), (1, 1)]), "Crowded")
        self.assertEqual(told(watch.look_all, Row([(0, 2)], [(0, 2)])), "BadLook")
        self.assertEqual(told(watch.look_all, Row([(3, 2)], [(3, 2)])), "Crowded")

    def test_refused_indexes(self):
        watch = self.watch()
        for value in no_integers():
            self.refused(BadIndex, watch, watch.counts_at, value)

    def test_refused_vectors(self):
        watch = self.watch()
        wrong = [(0,), (0, 0, 0), [0, 0], (False, 0), (0, False), (-1, 0), (3, 0), (FAR, 0), ("0", 0), (None, 0), ()]
        possible = watch.possible()
        impossible = [vector for vector in itertools.product(range(3), range(4)) if vector not in possible]
        self.assertTrue(impossible)
        for value in wrong + impossible + any_values():
            if type(value) is not tuple or value not in possible or any(not is_integer(part) for part in value):
                self.refused(BadVector, watch, watch.history, value)

    def test_refused_capacities_and_numbers(self):
        watch = self.watch()
        for value in [2, 3, 5, 99] + [value for value in any_values() if not is_integer(value) or value != 1]:
            self.refused(BadCapacity, watch, watch.sure, value, 0, 1)
            self.refused(BadCapacity, watch, watch.sure, value, None, True)
        for value in no_integers():
            self.refused(BadNumber, watch, watch.sure, 1, value, 1)
            self.refused(BadNumber, watch, watch.sure, 4, 0, value)
        for low, high in ((10 ** 3999, 10 ** 3999), (1, 0), (FAR, -FAR)):
            self.assertEqual(watch.sure(1, low, high), "no")
        self.assertEqual(watch.sure(4, -FAR, FAR), "yes")


class CopiesTest(unittest.TestCase):
    def test_what_is_returned_is_new(self):
        watch = Watch(Row([(0, 1), (4, 2)], [(4, 2)]), [(1, 2), (3, 1)])
        watch.look([])
        watch.look([(4, 2)])
        before = state(watch)
        for found in (watch.possible(), watch.outcomes(), watch.counts_at(4), watch.history(watch.possible()[0])):
            self.assertIs(type(found), list)
            found.append(None)
            found.reverse()
        self.assertEqual(state(watch), before)

    def test_a_look_changed_afterwards(self):
        watch, other = [Watch(Row([(0, 1)]), [(1, 2)]) for _ in range(2)]
        look = [(1, 0)]
        watch.look(look), other.look([(1, 0)])
        look[0] = (1, 1)
        self.assertEqual(look, [(1, 1)])
        self.assertEqual(state(watch), state(other))
        self.assertEqual((watch.look(((2, 1),)), other.look([(2, 1)])), (1, 1))
        self.assertEqual(state(watch), state(other))

    def test_the_row_stays(self):
        row = Row([(0, 1), (4, 2)], [(4, 2)])
        watch = Watch(row, [(1, 2)])
        watch.look([])
        self.assertEqual((row.contents, row.capacities), (((0, 1), (4, 2)), ((4, 2),)))


if __name__ == "__main__":
    unittest.main()
