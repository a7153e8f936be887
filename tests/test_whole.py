"""The parts of the program agree with one another over the same rows, as the guarantees say."""

import random
import unittest

from helper import FAR, far_rows, pairs_of_rows, sample_rows
from scooprow.advance import advance, picked_in_all, sorted_after
from scooprow.carriers import is_bar, led_by, loops
from scooprow.certificates import certificate, is_certificate
from scooprow.connecting import connect, fewest, least_number
from scooprow.console import Console
from scooprow.errors import Crowded
from scooprow.exchanges import plain_form, with_capacities
from scooprow.logs import entries, first_wrong
from scooprow.rows import Row
from scooprow.sweeps import picked, sweep, trace, unsweep
from scooprow.texts import counts_text, parse_counts, parse_row, row_text
from scooprow.times import given_up, seen
from scooprow.trains import lengths, row_of, trains
from scooprow.walks import Walk
from scooprow.watching import Watch
from scooprow.yards import Yard

CAPACITIES = (1, 2, 3, 5, 9, 99)


def whole_rows():
    return sample_rows()[::2] + far_rows()[:-1] + [
        Row([(FAR // 7 * place, 1) for place in range(-7, 8)], [(0, 3), (9, 2)])]


def random_counts(source, most):
    return {capacity: source.randint(-most, most) for capacity in source.sample(CAPACITIES, source.randint(0, 4))}


class SweepsTest(unittest.TestCase):
    def test_sweeps_have_one_inverse_and_commute(self):
        for row in whole_rows():
            for one in CAPACITIES:
                self.assertEqual(unsweep(sweep(row, one), one), row)
                self.assertEqual(sweep(unsweep(row, one), one), row)
                for other in CAPACITIES[::2]:
                    self.assertEqual(sweep(sweep(row, one), other), sweep(sweep(row, other), one))

    def test_carriers_at_once_are_sweeps_one_after_another(self):
        source = random.Random(130)
        for row in sample_rows()[::2]:
            carriers = [source.choice(CAPACITIES) for _ in range(source.randint(1, 4))]
            walk = Walk(row, carriers)
            for _ in range(40):
                k = source.randint(0, len(carriers) - 1)
                if k == 0 or walk.at(k - 1)[0] > walk.at(k)[0]:
                    walk.step(k)
                elif source.random() < 0.5:
                    walk.swap(k - 1)
            counts = {capacity: carriers.count(capacity) for capacity in carriers}
            self.assertEqual(walk.ended(), advance(row, counts))
            self.assertEqual(connect(walk.ended(), advance(row, counts)), ("sweeps", {}))

    def test_trains_are_the_row_and_move_alone(self):
        for row in whole_rows():
            found = trains(row)
            self.assertEqual(row_of(found, row.capacities), row)
            self.assertEqual(with_capacities(row_of(found), row.capacities), row)
            self.assertEqual(row_of(found), plain_form(row))
            for capacity in CAPACITIES:
                after = sweep(row, capacity)
                self.assertEqual(trains(after), [(length, offset + min(capacity, length)) for length, offset in found])
                self.assertEqual(picked(row, capacity), sum(min(capacity, length) for length in lengths(row)))
                self.assertEqual(picked_in_all(row, {capacity: 3}), {capacity: 3 * picked(after, capacity)})

    def test_what_a_box_has_and_gives_up(self):
        for row in whole_rows():
            for capacity, index in ((1, 0), (3, 7), (99, -FAR // 2)):
                found = seen(row, capacity, index)
                taken = 0
                for many, count in found:
                    now = advance(row, {capacity: many})
                    self.assertEqual(now.held(index), count)
                    taken += sum(min(capacity - load, held) for at, load, held, _, _ in trace(now, capacity)
                                 if at == index)
                self.assertEqual(taken, given_up(row, capacity, index))
                for many in (0, 1, -1):
                    self.assertEqual(dict(found).get(many, 0), advance(row, {capacity: many}).held(index))

    def test_long_sweeps_sort(self):
        for row in whole_rows():
            least = sorted_after(row)
            ends = plain_form(advance(row, {99: least + 1}))
            self.assertEqual(sorted_after(ends), 0)
            self.assertEqual(trains(ends), trains(advance(row, {99: least + 1})))


class ConnectionsTest(unittest.TestCase):
    def test_what_sweeps_do_is_found_again(self):
        source = random.Random(131)
        for row in whole_rows():
            for most in (2, FAR):
                counts = random_counts(source, most)
                other = advance(row, counts)
                for found in (connect(row, other), led_by(row, other, CAPACITIES)):
                    self.assertEqual((found[0], advance(row, found[1])), ("sweeps", other))
                self.assertEqual(advance(other, {capacity: -many for capacity, many in counts.items()}), row)
                forward = {capacity: abs(many) for capacity, many in counts.items()}
                found = fewest(row, advance(row, forward))
                self.assertEqual(found[0], "sweeps")
                self.assertLessEqual(sum(found[1].values()), sum(forward.values()))
                self.assertEqual(sum(found[1].values()), least_number(row, advance(row, forward)))

    def test_either_answer_has_a_certificate(self):
        source = random.Random(132)
        for row, other in pairs_of_rows(source, whole_rows()[::3]):
            for backward in (True, False):
                value = certificate(row, other, backward=backward)
                self.assertTrue(is_certificate(row, other, value, backward=backward))
                self.assertEqual(value[0][0], connect(row, other, backward=backward)[0])
                if value[0][0] != "sweeps":
                    wrong = (("sweeps", ((1, 1),)), *value[1:])
                    self.assertFalse(is_certificate(row, other, wrong, backward=backward))
            given = led_by(row, other, [2, 5])
            if given[0] == "barred":
                self.assertTrue(is_bar(row, other, [2, 5], given))
                self.assertIn(value[0][0], ("sweeps", "steep", "falling"))
            elif given[0] == "sweeps":
                self.assertEqual(advance(row, given[1]), other)
            else:
                self.assertEqual(given, connect(row, other))

    def test_loops_are_other_ways(self):
        for row in whole_rows():
            other = advance(row, {1: 5, 9: -2})
            counts = led_by(row, other, [1, 9, 40])[1]
            for loop in loops(row, [1, 9, 40]):
                self.assertEqual(advance(row, loop), row)
                both = {capacity: counts.get(capacity, 0) + loop.get(capacity, 0) for capacity in (1, 9, 40)}
                self.assertEqual(advance(row, both), other)
                pairs = tuple((capacity, many) for capacity, many in both.items() if many)
                self.assertTrue(is_certificate(row, other, (("sweeps", pairs), *certificate(row, other)[1:])))

    def test_a_watch_keeps_what_happened(self):
        source = random.Random(133)
        for row in whole_rows()[::2]:
            limits = [(1, 2), (3, 2), (9, 1)]
            watch, now, total = Watch(row, limits), row, (0, 0, 0)
            for _ in range(4):
                stretch = tuple(source.randint(0, limit) for _, limit in limits)
                total = tuple(map(sum, zip(total, stretch)))
                now = advance(now, {capacity: many for (capacity, _), many in zip(limits, stretch)})
                try:
                    watch.look_all(now) if source.random() < 0.5 else watch.look([(0, now.held(0))])
                except Crowded:
                    break
                self.assertIn(total, watch.possible())
                self.assertIn(now, watch.outcomes())
                for vector in watch.possible()[::9]:
                    counts = {capacity: many for (capacity, _), many in zip(limits, vector)}
                    self.assertIn(advance(row, counts), watch.outcomes())
                    after = row
                    for part in watch.history(vector):
                        after = advance(after, {capacity: many for (capacity, _), many in zip(limits, part)})
                    self.assertEqual(after, advance(row, counts))


class YardsTest(unittest.TestCase):
    def test_rows_of_a_yard(self):
        source = random.Random(134)
        for row in whole_rows():
            counts = random_counts(source, FAR)
            yard = Yard()
            yard.do_all([("put", "a", row), ("put", "b", row)])
            yard.trains_of("a")
            yard.do(("go", "a", tuple(counts.items())))
            self.assertEqual(yard.row("a"), advance(row, counts))
            self.assertEqual((yard.trains_of("a"), yard.analyses()), (trains(yard.row("a")), 1))
            self.assertEqual(connect(yard.row("b"), yard.row("a"))[0], "sweeps")
            for index, _ in row.capacities[1:]:
                yard.do(("shift", "a", index))
            self.assertEqual((yard.trains_of("a"), yard.analyses()), (trains(yard.row("a")), 1))
            log = entries(yard.log())
            self.assertIsNone(first_wrong(log))
            self.assertEqual(log[-1][1], (("a", yard.row("a").contents), ("b", row.contents)))
            while yard.undo():
                pass
            self.assertTrue(yard == Yard() and yard.log() == [])

    def test_texts_of_what_is_found(self):
        source = random.Random(135)
        for row, other in pairs_of_rows(source, whole_rows()[::2]):
            if all(abs(index) < 10 ** 31 for index, _ in other.contents):
                self.assertEqual(parse_row(row_text(other)), other)
            found = connect(row, other)
            if found[0] == "sweeps":
                self.assertEqual(advance(row, parse_counts(counts_text(found[1]))), other)

    def test_a_console_tells_the_same(self):
        source = random.Random(136)
        for row in whole_rows()[:-1]:
            console = Console()
            items = ",".join(f"{index}:{count}" for index, count in row.contents) or "-"
            wide = ",".join(f"{index}:{capacity}" for index, capacity in row.capacities) or "-"
            counts = random_counts(source, FAR)
            lines = [f"put a {items} {wide}", f"put b {items} {wide}"]
            lines += [f"go b {capacity} {many}" for capacity, many in counts.items()]
            self.assertEqual({console.answer(line) for line in lines}, {"ok"})
            other = advance(row, counts)
            self.assertEqual(console.answer("row b"),
                             ",".join(f"{index}:{count}" for index, count in other.contents) or "-")
            self.assertEqual(console.answer("trains b"),
                             ",".join(f"{length}:{offset}" for length, offset in trains(other)) or "-")
            word, text = console.answer("connect a b").split(" ", 1)
            self.assertEqual((word, advance(row, parse_counts(text))), ("sweeps", other))


if __name__ == "__main__":
    unittest.main()
