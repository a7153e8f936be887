import random
import unittest

from helper import FAR, any_values, far_rows, is_integer, sample_rows, slow_sweep
from scooprow.advance import advance
from scooprow.errors import Apart, BadCapacity, BadCarrier, Blocked
from scooprow.exchanges import exchanged
from scooprow.rows import Row
from scooprow.sweeps import halfway, sweep
from scooprow.walks import Walk

GOOD_CAPACITIES = [[1], [99], (5,), [3, 3], (1, 99), [2, 9, 4], (6, 5, 4, 3, 2, 1), [99] * 6]
BAD_CAPACITIES = [
    [], (), [0], [100], [-1], [1, 0], [1, 100], [1] * 7, tuple(range(1, 8)), [1, 1, 1, 1, 1, 0],
    [True], [1, True], [False], ["1"], [None], [[1]], [(1,)], [1, None], 1, "1", "123", {1: 1}, {},
    [10 ** 3999], [1, 2.5], None, True, Row(), [Row()],
]


class SlowWalk:
    """A walk by the rules, one box after another; errors are told as words."""

    def __init__(self, row, capacities):
        begin = min([index for index, _ in row.contents + row.capacities], default=0)
        self.row = row
        self.counts = dict(row.contents)
        self.carriers = [[begin, capacity, 0] for capacity in capacities]

    def step(self, k):
        if not 0 <= k < len(self.carriers):
            return ("BadCarrier", k)
        index, capacity, load = self.carriers[k]
        if k > 0 and self.carriers[k - 1][0] == index:
            return ("Blocked", k)
        count = self.counts.get(index, 0)
        up = min(capacity - load, count)
        down = min(load, self.row.capacity(index) - count)
        self.counts[index] = count - up + down
        self.carriers[k] = [index + 1, capacity, load + up - down]
        return (up, down)

    def swap(self, k):
        if not 0 <= k < len(self.carriers) - 1:
            return ("BadCarrier", k)
        ahead, behind = self.carriers[k], self.carriers[k + 1]
        if ahead[0] != behind[0]:
            return ("Apart", k)
        up = min(behind[1] - behind[2], ahead[2])
        down = min(behind[2], ahead[1] - ahead[2])
        self.carriers[k] = [ahead[0], behind[1], behind[2] + up - down]
        self.carriers[k + 1] = [ahead[0], ahead[1], ahead[2] - up + down]
        return None

    def now(self):
        return Row([pair for pair in self.counts.items() if pair[1]], self.row.capacities)


def done(action, k):
    """What the call returns, or the word and the field of its error."""
    try:
        return action(k)
    except (BadCarrier, Blocked, Apart) as error:
        return (type(error).__name__, error.k)


def stand(walk):
    """Where all carriers stand, and the row as it is."""
    found = []
    while done(walk.at, len(found)) != ("BadCarrier", len(found)):
        found.append(walk.at(len(found)))
    return (found, walk.now().contents, walk.now().capacities, walk.ended().contents)


def after_all(row, capacities):
    return advance(row, {capacity: capacities.count(capacity) for capacity in capacities})


def go_on(walk, source, many):
    """So many steps and swaps that are not refused, as far as there are any."""
    carriers = len(stand(walk)[0])
    for _ in range(many):
        done(walk.step, source.randrange(carriers))
        if source.random() < 0.3:
            done(walk.swap, source.randrange(carriers))


class WalkTest(unittest.TestCase):
    def test_one_carrier(self):
        walk = Walk(Row([(3, 1), (4, 2)], [(4, 3)]), [2])
        self.assertEqual(walk.at(0), (3, 2, 0))
        self.assertEqual(walk.step(0), (1, 0))
        self.assertEqual((walk.at(0), walk.now()), ((4, 2, 1), Row([(4, 2)], [(4, 3)])))
        self.assertEqual(walk.step(0), (1, 1))
        self.assertEqual((walk.at(0), walk.now()), ((5, 2, 1), Row([(4, 2)], [(4, 3)])))
        self.assertEqual(walk.step(0), (0, 1))
        self.assertEqual((walk.at(0), walk.now()), ((6, 2, 0), walk.ended()))
        self.assertEqual([walk.step(0) for _ in range(5)], [(0, 0)] * 5)
        self.assertEqual(walk.at(0), (11, 2, 0))

    def test_one_carrier_goes_as_in_a_sweep(self):
        for row in sample_rows():
            for capacity in (1, 3, 99):
                walk = Walk(row, [capacity])
                for _ in range(60):
                    index = walk.at(0)[0]
                    walk.step(0)
                    self.assertEqual((walk.now(), walk.at(0)[2]), halfway(row, capacity, index))
                    self.assertEqual(walk.at(0)[:2], (index + 1, capacity))

    def test_where_they_begin(self):
        begins = [(Row(), 0), (Row([(5, 1), (9, 1)]), 5), (Row((), [(-7, 2)]), -7), (Row((), [(7, 2)]), 7),
                  (Row([(3, 1)], [(8, 2)]), 3), (Row([(3, 1)], [(-8, 2)]), -8),
                  (Row([(FAR, 1)]), FAR), (Row([(-FAR, 1), (FAR, 1)], [(0, 2)]), -FAR),
                  (Row([(4, 2)], [(4, 3), (6, 2)]), 4)]
        for row, begin in begins:
            for capacities in GOOD_CAPACITIES:
                walk = Walk(row, capacities)
                self.assertEqual([walk.at(k) for k in range(len(capacities))],
                                 [(begin, capacity, 0) for capacity in capacities])
                self.assertRaises(BadCarrier, walk.at, len(capacities))
                self.assertEqual((walk.now(), walk.ended()), (row, after_all(row, list(capacities))))

    def test_as_box_by_box(self):
        source = random.Random(70)
        refused = set()
        for row in sample_rows() + far_rows()[:-1]:
            for many in range(1, 7):
                capacities = [source.choice([1, 1, 2, 3, 5, 9, 99]) for _ in range(many)]
                walk, slow = Walk(row, capacities), SlowWalk(row, capacities)
                for _ in range(90):
                    word = source.choice(["step", "step", "step", "swap"])
                    k = source.choice([0, *range(-1, many + 1)])
                    result = done(getattr(walk, word), k)
                    self.assertEqual(result, getattr(slow, word)(k))
                    refused.add(result[0] if result and isinstance(result[0], str) else "")
                    self.assertEqual([walk.at(at) for at in range(many)], [tuple(one) for one in slow.carriers])
                    self.assertEqual(walk.now(), slow.now())
        self.assertEqual(refused, {"", "BadCarrier", "Blocked", "Apart"})

    def test_ended_is_advance_at_any_time(self):
        source = random.Random(71)
        for row in sample_rows() + far_rows():
            for many in range(1, 7):
                capacities = [source.choice([1, 2, 3, 5, 9, 99]) for _ in range(many)]
                expected = after_all(row, capacities)
                walk = Walk(row, capacities)
                for _ in range(4):
                    self.assertEqual(walk.ended(), expected)
                    go_on(walk, source, 20)

    def test_ended_is_where_the_steps_lead(self):
        source = random.Random(72)
        for row in sample_rows():
            capacities = [source.choice([1, 2, 3, 5, 9, 99]) for _ in range(source.randint(1, 6))]
            walk = Walk(row, capacities)
            go_on(walk, source, 60)
            behind = row.contents[-1][0] + 50 * len(capacities) if row.contents else 0
            for k in range(len(capacities)):
                while walk.at(k)[0] < behind + 61 - k:
                    walk.step(k)
                self.assertEqual(walk.at(k)[2], 0)
            self.assertEqual(walk.now(), walk.ended())
            for capacity in capacities:
                row = slow_sweep(row, capacity)
            self.assertEqual(walk.now(), row)

    def test_swaps_are_exchanges_of_holders(self):
        walk = Walk(Row([(index, 1) for index in range(12)]), [5, 3, 4])
        for _ in range(6):
            walk.step(0)
        for _ in range(6):
            walk.step(1)
        self.assertEqual((walk.at(0), walk.at(1), walk.at(2)), ((6, 5, 5), (6, 3, 1), (0, 4, 0)))
        left, right = exchanged((3, 1), (5, 5))
        self.assertEqual((left, right), ((5, 3), (3, 3)))
        self.assertIsNone(walk.swap(0))
        self.assertEqual((walk.at(0), walk.at(1), walk.at(2)), ((6, 3, 3), (6, 5, 3), (0, 4, 0)))
        self.assertEqual(walk.step(0), (0, 0))
        self.assertRaises(Apart, walk.swap, 0)
        self.assertRaises(Apart, walk.swap, 1)

    def test_two_swaps_take_each_other_back(self):
        source = random.Random(73)
        for row in sample_rows()[::2]:
            walk = Walk(row, [source.choice([1, 2, 5, 9]) for _ in range(4)])
            for _ in range(60):
                go_on(walk, source, 1)
                for k in range(3):
                    before = stand(walk)
                    if done(walk.swap, k) is None:
                        walk.swap(k)
                    self.assertEqual(stand(walk), before)

    def test_kinds_of_results(self):
        walk = Walk(Row([(0, 1), (1, 2)], [(1, 2)]), [2, 3])
        for found in (walk.step(0), walk.step(1), walk.at(0)):
            self.assertEqual({type(found), *map(type, found)}, {tuple, int})
        for row in (walk.now(), walk.ended()):
            self.assertIs(type(row), Row)
        self.assertIs(type(walk.copy()), Walk)

    def test_arguments_by_name(self):
        walk = Walk(capacities=(1, 2), row=Row([(0, 1)]))
        self.assertEqual((walk.step(k=0), walk.step(k=1), walk.swap(k=0), walk.at(k=0)),
                         ((1, 0), (0, 0), None, (1, 2, 1)))

    def test_its_own_row_and_carriers(self):
        row = Row([(0, 1), (1, 1)], [(4, 2)])
        capacities = [1, 2]
        walk = Walk(row, capacities)
        capacities.append(7)
        capacities[0] = 50
        self.assertRaises(BadCarrier, walk.at, 2)
        self.assertEqual(walk.at(0), (0, 1, 0))
        now = walk.now()
        walk.step(0)
        self.assertEqual((row, now), (Row([(0, 1), (1, 1)], [(4, 2)]), row))
        self.assertEqual(walk.now(), Row([(1, 1)], [(4, 2)]))
        self.assertEqual(capacities, [50, 2, 7])
        self.assertEqual(walk.ended(), sweep(sweep(row, 1), 2))


class RefusedTest(unittest.TestCase):
    def test_refused_capacities(self):
        values = [value for value in any_values() if not isinstance(value, tuple) or repr(value) != "(1, 1)"]
        self.assertEqual(len(values), len(any_values()) - 1)
        for value in BAD_CAPACITIES + values:
            for row in (Row(), Row([(0, 1)]), Row((), [(0, 2)])):
                self.assertRaises(BadCapacity, Walk, row, value)
        for value in GOOD_CAPACITIES:
            self.assertEqual(Walk(Row(), value).at(0), (0, value[0], 0))

    def test_what_is_no_carrier(self):
        for many in range(1, 7):
            walk = Walk(Row([(0, 1), (2, 1)], [(1, 2)]), [3] * many)
            walk.step(0)
            before = stand(walk)
            for value in any_values() + [-1, many, many + 1, many - 1]:
                for action, last in ((walk.step, many - 1), (walk.at, many - 1), (walk.swap, many - 2)):
                    if is_integer(value) and 0 <= value <= last:
                        continue
                    with self.assertRaises(BadCarrier) as caught:
                        action(value)
                    self.assertIs(caught.exception.k, value)
            self.assertEqual(stand(walk), before)

    def test_blocked(self):
        walk = Walk(Row([(0, 1), (1, 1)]), [1, 1, 1])
        before = stand(walk)
        for k in (1, 2):
            with self.assertRaises(Blocked) as caught:
                walk.step(k)
            self.assertEqual(caught.exception.k, k)
        self.assertEqual(stand(walk), before)
        walk.step(0)
        before = stand(walk)
        self.assertRaises(Blocked, walk.step, 2)
        self.assertEqual(stand(walk), before)
        walk.step(1)
        before = stand(walk)
        self.assertRaises(Blocked, walk.step, 1)
        self.assertEqual(stand(walk), before)
        self.assertEqual((walk.step(2), walk.step(0)), ((0, 0), (0, 0)))
        self.assertEqual([walk.at(k) for k in range(3)], [(2, 1, 1), (1, 1, 0), (1, 1, 0)])

    def test_apart(self):
        walk = Walk(Row([(0, 1), (1, 1)]), [4, 5, 6])
        walk.step(0)
        before = stand(walk)
        with self.assertRaises(Apart) as caught:
            walk.swap(0)
        self.assertEqual((caught.exception.k, stand(walk)), (0, before))
        self.assertIsNone(walk.swap(1))
        self.assertEqual([walk.at(k) for k in range(3)], [(1, 4, 1), (0, 6, 0), (0, 5, 0)])
        walk.step(1)
        before = stand(walk)
        with self.assertRaises(Apart) as caught:
            walk.swap(1)
        self.assertEqual((caught.exception.k, stand(walk)), (1, before))
        self.assertIsNone(walk.swap(0))


class CopyTest(unittest.TestCase):
    def test_copies_go_their_own_ways(self):
        source = random.Random(74)
        for row in sample_rows() + far_rows()[:-1]:
            walk = Walk(row, [source.choice([1, 2, 5, 9]) for _ in range(3)])
            go_on(walk, source, 25)
            other = walk.copy()
            before = stand(walk)
            self.assertEqual(stand(other), before)
            for first, second in ((walk, other), (other, walk)):
                kept = stand(second)
                go_on(first, source, 15)
                self.assertNotEqual(stand(first), kept)
                self.assertEqual(stand(second), kept)

    def test_a_copy_of_a_copy_goes_as_the_first_walk(self):
        for row in sample_rows()[::3]:
            walk = Walk(row, [2, 7, 1])
            go_on(walk, random.Random(75), 30)
            other = walk.copy().copy()
            go_on(walk, random.Random(76), 30)
            go_on(other, random.Random(76), 30)
            self.assertEqual(stand(other), stand(walk))

    def test_swapped_carriers_are_copied(self):
        walk = Walk(Row([(0, 1), (1, 1)]), [2, 1])
        walk.swap(0)
        other = walk.copy()
        self.assertEqual((other.at(0), other.at(1)), ((0, 1, 0), (0, 2, 0)))
        self.assertEqual((other.step(0), other.step(1), other.ended()), ((1, 0), (0, 0), walk.ended()))
        self.assertEqual(walk.at(0), (0, 1, 0))


if __name__ == "__main__":
    unittest.main()
