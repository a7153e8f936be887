import random
import unittest

from helper import FAR, any_values, is_integer, sample_rows, swept
from scooprow.advance import advance
from scooprow.errors import (
    At, BadCounts, BadIndex, BadName, BadNumber, BadOperation, BadRow, ScoopError)
from scooprow.rows import Row, is_row_like
from scooprow.trains import trains
from scooprow.yards import Yard

PARTS = {"put": 3, "drop": 2, "go": 3, "add": 4, "shift": 3}
NO_NAMES = ["", "A", "aB", "abcdefghi", "a1", "a b", "a_", " ", "-", "a\n", "\n", "{", "`", "0", None, True, 0, 5,
            [], (), {}, ["a"], ("a",), Row(), 10 ** 3999]
NO_COUNTS = [[(1, 1)], {1: 1}, [], {}, None, 1, "", ((1, 1), (1, 2)), ((1, 1), (1, 1)), ((0, 1),), ((100, 1),),
             ((True, 1),), ((1, True),), ((1, False),), ([1, 1],), ((1,),), ((1, 1, 1),), (1, 1), ((1, None),),
             (("1", 1),), ((1, 1), (2, 3), (100, 0)), ((10 ** 3999, 1),), Row()]


def is_small_name(value):
    return isinstance(value, str) and 1 <= len(value) <= 8 and all(letter in "abcdefghijklmnopqrstuvwxyz"
                                                                   for letter in value)


def are_tuple_counts(value):
    if type(value) is not tuple or any(type(part) is not tuple or len(part) != 2 for part in value):
        return False
    if not all(is_integer(number) for part in value for number in part):
        return False
    capacities = [capacity for capacity, _ in value]
    return len(set(capacities)) == len(capacities) and all(1 <= capacity <= 99 for capacity in capacities)


def slow_added(row, index, amount):
    """The row with so many more items, or the words of the error."""
    if not is_integer(index):
        return ("BadIndex",)
    if not is_integer(amount) or amount == 0:
        return ("BadNumber",)
    counts = dict(row.contents)
    counts[index] = counts.get(index, 0) + amount
    contents = [(place, count) for place, count in counts.items() if count != 0]
    return Row(contents, row.capacities) if is_row_like(contents, row.capacities) else ("BadRow", "contents")


def slow_shifted(row, index):
    """The row with the wide box moved to the left by the rule of a step, or the words of the error."""
    if not is_integer(index) or index == -60 or index not in dict(row.capacities):
        return ("BadIndex",)
    left, right = row.capacity(index - 1), row.capacity(index)
    load, count = row.held(index - 1), row.held(index)
    up, down = min(left - load, count), min(load, right - count)
    counts = {**dict(row.contents), index - 1: count - up + down, index: load + up - down}
    capacities = {**dict(row.capacities), index - 1: right, index: left}
    return Row([pair for pair in counts.items() if pair[1]], [pair for pair in capacities.items() if pair[1] > 1])


def slow_gone(row, counts):
    if not are_tuple_counts(counts):
        return ("BadCounts",)
    for capacity, many in counts:
        row = swept(row, capacity, many) if abs(many) < 100 else advance(row, {capacity: many})
    return row


def slow_operation(rows, operation):
    """The rows after an operation, or the words of the error."""
    if type(operation) is not tuple or not operation or type(operation[0]) is not str:
        return ("BadOperation",)
    if len(operation) != PARTS.get(operation[0]):
        return ("BadOperation",)
    word, name, parts = operation[0], operation[1], operation[2:]
    if not is_small_name(name) or (name in rows) == (word == "put") or (word == "put" and len(rows) == 12):
        return ("BadName", name)
    if word == "put":
        new = parts[0] if isinstance(parts[0], Row) else ("BadRow", "value")
    elif word == "drop":
        return {other: row for other, row in rows.items() if other != name}
    else:
        new = {"go": slow_gone, "add": slow_added, "shift": slow_shifted}[word](rows[name], *parts)
    return new if isinstance(new, tuple) else {**rows, name: new}


class SlowYard:
    """A yard that keeps everything of each step; errors are told as words."""

    def __init__(self):
        self.before, self.after = [], []
        self.rows, self.operations = {}, []
        self.kept = set()
        self.many = 0

    def copy(self):
        other = SlowYard()
        other.before, other.after = list(self.before), list(self.after)
        other.rows, other.operations = self.rows, self.operations
        other.kept, other.many = set(self.kept), self.many
        return other

    def do_all(self, operations):
        """None, or the index and the words of the first error."""
        rows, kept = self.rows, set(self.kept)
        for k, operation in enumerate(operations):
            rows = slow_operation(rows, operation)
            if isinstance(rows, tuple):
                return (k, rows)
            if operation[0] in ("put", "drop", "add"):
                kept.discard(operation[1])
        if operations:
            self.before.append((self.rows, self.operations))
            self.after = []
            self.rows, self.operations = rows, self.operations + list(operations)
            self.kept = kept
        return None

    def go_to(self, source, target):
        if not source:
            return False
        target.append((self.rows, self.operations))
        self.rows, self.operations = source.pop()
        self.kept = set()
        return True

    def undo(self):
        return self.go_to(self.before, self.after)

    def redo(self):
        return self.go_to(self.after, self.before)

    def trains_of(self, name):
        if name not in self.kept:
            self.many += 1
            self.kept.add(name)
        return trains(self.rows[name])


def told(action, *given):
    """What the call returns, or the words of its error: its class and its field, if it has one."""
    try:
        return action(*given)
    except ScoopError as error:
        return (type(error).__name__, *vars(error).values())


def random_name(source):
    return source.choice(["a", "b", "c", "zz", "abcdefgh"])


def random_operation(source, rows):
    """An operation of any word, sometimes with a part that is not valid."""
    word = source.choice(["put", "put", "drop", "go", "go", "add", "add", "add", "shift"])
    name = random_name(source)
    row = rows.get(name, Row([(0, 1)], [(0, 2)]))
    indexes = [index for index, _ in row.contents + row.capacities] + [0, 7]
    index = source.choice(indexes) + source.choice([0, 0, 1])
    if word == "put":
        parts = (source.choice(sample_rows()[:40:3]),)
    elif word == "go":
        capacities = source.sample([1, 2, 3, 9, 99], source.randint(0, 3))
        parts = (tuple((capacity, source.randint(-2, 2)) for capacity in capacities),)
    elif word == "add":
        parts = (index, source.choice([-2, -1, 1, 1, 2, 3]))
    else:
        parts = (index,) if word == "shift" else ()
    operation = (word, name, *parts)
    if source.random() < 0.15:
        at = source.randint(0, len(operation) - 1)
        operation = operation[:at] + (source.choice([None, "A", True, 0, FAR, (), [1]]),) + operation[at + 1:]
    return operation


def put(*names):
    return [("put", name, Row([(0, 1), (1, 1)], [(5, 3)])) for name in names]


def yard_with(*names):
    yard = Yard()
    yard.do_all(put(*names))
    return yard


def state(yard):
    """All that a yard tells without a change, and how far it can be undone and redone."""
    ways = []
    for action in ("undo", "redo"):
        other = yard.copy()
        steps = [0]
        while getattr(other, action)():
            steps.append(sorted((name, other.row(name).contents) for name in other.names()))
        ways.append(steps)
    rows = [(name, yard.row(name).contents, yard.row(name).capacities) for name in yard.names()]
    kept = []
    for name in yard.names():
        other = yard.copy()
        before = other.analyses()
        kept.append((other.trains_of(name), other.analyses() - before))
    return (rows, yard.log(), yard.analyses(), kept, ways)


class AgainstTheModelTest(unittest.TestCase):
    def check_state(self, yard, slow):
        self.assertEqual(yard.names(), sorted(slow.rows))
        for name in slow.rows:
            self.assertEqual(yard.row(name), slow.rows[name])
        self.assertEqual(yard.log(), slow.operations)
        self.assertEqual(yard.analyses(), slow.many)
        fresh = Yard()
        fresh.do_all([("put", name, row) for name, row in slow.rows.items()])
        self.assertEqual((yard == fresh, fresh == yard, yard != fresh), (True, True, False))

    def step(self, source, yard, slow):
        kind = source.random()
        if kind < 0.5:
            operation = random_operation(source, slow.rows)
            found = slow.do_all([operation])
            self.assertEqual(told(yard.do, operation), found and found[1], operation)
            return "done" if found is None else found[1][0]
        if kind < 0.65:
            operations = [random_operation(source, slow.rows) for _ in range(source.randint(0, 3))]
            found = slow.do_all(operations)
            self.assertEqual(told(yard.do_all, operations), found and ("At", found[0]))
            return "all" if found is None else "At"
        if kind < 0.85:
            name = source.choice(["undo", "undo", "redo"])
            found = getattr(slow, name)()
            self.assertIs(getattr(yard, name)(), found)
            return name + str(found)
        if slow.rows:
            name = source.choice(sorted(slow.rows))
            self.assertEqual(yard.trains_of(name), slow.trains_of(name))
        return "trains"

    def test_many_operations(self):
        source = random.Random(100)
        seen = {}
        for _ in range(25):
            yard, slow = Yard(), SlowYard()
            for _ in range(60):
                word = self.step(source, yard, slow)
                seen[word] = seen.get(word, 0) + 1
                self.check_state(yard, slow)
                if source.random() < 0.05:
                    # The copy goes on; what is left behind must not matter to it.
                    left, yard, slow = yard, yard.copy(), slow.copy()
                    self.check_state(yard, slow)
                    left.undo(), left.do(("put", "left", Row())), left.trains_of("left")
        self.assertLessEqual({"done", "all", "At", "undoTrue", "undoFalse", "redoTrue", "redoFalse", "BadName",
                              "BadOperation", "BadCounts", "BadIndex", "BadNumber", "BadRow"}, set(seen))

    def test_every_operation_step_by_step(self):
        yard, slow = Yard(), SlowYard()
        row = Row([(-60, 1), (0, 2), (3, 1)], [(-60, 2), (0, 3), (2, 9)])
        for operation in [
                ("put", "a", row), ("go", "a", ((2, 1),)), ("go", "a", ()), ("go", "a", ((9, 0), (1, -3))),
                ("shift", "a", 0), ("shift", "a", -1), ("shift", "a", 2), ("shift", "a", 1), ("shift", "a", -60),
                ("add", "a", -2, -1), ("add", "a", 1, 9), ("add", "a", FAR, 1), ("add", "a", -FAR, -1),
                ("add", "a", 30, 2), ("shift", "a", 0), ("shift", "a", -2), ("add", "a", FAR, -1), ("drop", "a"),
                ("drop", "a"), ("put", "a", row), ("put", "a", row)]:
            found = slow.do_all([operation])
            self.assertEqual(told(yard.do, operation), found and found[1], operation)
            self.check_state(yard, slow)

    def test_far_sweeps(self):
        yard = Yard()
        yard.do(("put", "a", Row([(0, 1), (1, 1)])))
        yard.trains_of("a")
        yard.do(("go", "a", ((9, FAR), (1, -FAR))))
        self.assertEqual((yard.row("a"), yard.trains_of("a")), (Row([(FAR, 1), (FAR + 1, 1)]), [(2, FAR)]))
        self.assertEqual((yard.analyses(), yard.undo(), yard.row("a")), (1, True, Row([(0, 1), (1, 1)])))


class RefusedTest(unittest.TestCase):
    def refused(self, yard, operation, error, **fields):
        """That the operation is refused with this error, alone and among others, and changes nothing."""
        before = state(yard)
        with self.assertRaises(ScoopError) as caught:
            yard.do(operation)
        self.assertEqual((type(caught.exception), repr(vars(caught.exception))), (error, repr(fields)))
        for operations, k in (([operation], 0), ([("put", "fresh", Row()), ("drop", "fresh"), operation], 2)):
            if len(yard.names()) < 12 or k == 0:
                self.assertEqual(told(yard.do_all, operations), ("At", k))
        self.assertEqual(state(yard), before)

    def busy_yard(self):
        """A yard with steps to undo and redo, and kept trains."""
        yard = yard_with("a", "b")
        yard.do(("add", "b", 0, -1))
        yard.do(("go", "a", ((1, 2),)))
        yard.do(("drop", "b"))
        yard.undo()
        yard.trains_of("a")
        return yard

    def test_no_operations(self):
        yard = self.busy_yard()
        for value in any_values() + [
                ["put", "c", Row()], ["drop", "a"], ("put",), ("put", "c"), ("put", "c", Row(), 1), ("drop",),
                ("drop", "a", 1), ("go", "a"), ("go", "a", (), ()), ("add", "a", 1), ("add", "a", 1, 1, 1),
                ("shift", "a"), ("shift", "a", 5, 5), ("Put", "c", Row()), ("undo",), ("redo",), ("names",),
                ("row", "a"), ("", "a"), (None, "a"), (["drop"], "a"), (("drop",), "a"), ({}, "a"), (True, "a"),
                (Row(), "a"), "drop", "drop a", {"drop": "a"}]:
            self.refused(yard, value, BadOperation)

    def test_no_names(self):
        yard = self.busy_yard()
        for name in NO_NAMES + [value for value in any_values() if not is_small_name(value)]:
            for operation in (("put", name, Row()), ("drop", name), ("go", name, ()), ("add", name, 0, 1),
                              ("shift", name, 5)):
                self.refused(yard, operation, BadName, name=name)
            for action in (yard.row, yard.trains_of):
                self.assertEqual(repr(told(action, name)), repr(("BadName", name)))

    def test_names_that_are_there_or_not(self):
        yard = self.busy_yard()
        for name in ("a", "b"):
            self.refused(yard, ("put", name, Row()), BadName, name=name)
            self.refused(yard, ("put", name, None), BadName, name=name)
        for name in ("c", "ab", "zzzzzzzz"):
            for parts in (("drop", name), ("go", name, None), ("add", name, None, 0), ("shift", name, None)):
                self.refused(yard, parts, BadName, name=name)
            self.assertEqual((told(yard.row, name), told(yard.trains_of, name)), (("BadName", name),) * 2)
            self.assertIsNone(yard.copy().do(("put", name, Row())))

    def test_values_of_the_parts(self):
        yard = self.busy_yard()
        for value in any_values():
            if not isinstance(value, Row):
                self.refused(yard, ("put", "c", value), BadRow, field="value")
        for value in NO_COUNTS + [value for value in any_values() if not are_tuple_counts(value)]:
            self.refused(yard, ("go", "a", value), BadCounts)
        for value in any_values():
            if not is_integer(value):
                self.refused(yard, ("add", "a", value, 1), BadIndex)
                self.refused(yard, ("add", "a", value, 0), BadIndex)
                self.refused(yard, ("add", "a", 2, value), BadNumber)
                self.refused(yard, ("shift", "a", value), BadIndex)
        self.refused(yard, ("add", "a", 2, 0), BadNumber)
        for index in (0, 4, 6, -60, 60, FAR, 10 ** 3999):
            self.refused(yard, ("shift", "a", index), BadIndex)

    def test_too_many_or_too_few_items(self):
        yard = yard_with("a")
        yard.do(("put", "full", Row([(index, 1) for index in range(36)] + [(40, 3)], [(40, 9)])))
        for index, amount in ((0, 1), (0, -2), (2, -1), (2, 2), (5, 4), (5, -1), (FAR, -1), (2, 10 ** 3999), (5, FAR)):
            self.refused(yard, ("add", "a", index, amount), BadRow, field="contents")
        for index, amount in ((40, 2), (-1, 2), (40, -4), (40, 7)):
            self.refused(yard, ("add", "full", index, amount), BadRow, field="contents")
        yard.do(("add", "full", 40, 1))
        self.assertEqual(yard.row("full").total(), 40)
        self.refused(yard, ("add", "full", 40, 1), BadRow, field="contents")
        self.refused(yard, ("add", "full", FAR, 1), BadRow, field="contents")
        yard.do(("add", "full", 40, -4))
        self.assertEqual((yard.row("full").held(40), yard.row("full").capacity(40)), (0, 9))

    def test_the_first_index_is_not_shifted(self):
        yard = Yard()
        yard.do(("put", "a", Row([(-60, 1), (-59, 1)], [(-60, 2), (-59, 3)])))
        self.refused(yard, ("shift", "a", -60), BadIndex)
        yard.do(("shift", "a", -59))
        self.assertEqual(yard.row("a").capacities, ((-60, 3), (-59, 2)))

    def test_a_thirteenth_row(self):
        names = [first + second for first in "abc" for second in "wxyz"]
        yard = yard_with(*names)
        self.assertEqual(yard.names(), names)
        self.refused(yard, ("put", "d", Row()), BadName, name="d")
        self.refused(yard, ("put", "aw", Row()), BadName, name="aw")
        self.refused(yard, ("put", "d", None), BadName, name="d")
        yard.do_all([("drop", "bx"), ("put", "d", Row())])
        self.refused(yard, ("put", "bx", Row()), BadName, name="bx")
        self.assertEqual(len(yard.names()), 12)

    def test_do_all_of_no_list(self):
        yard = self.busy_yard()
        before = state(yard)
        for value in any_values():
            if not isinstance(value, (list, tuple)):
                self.assertEqual(told(yard.do_all, value), ("At", 0))
        self.assertEqual(told(yard.do_all, ("drop", "a")), ("At", 0))
        self.assertEqual(state(yard), before)
        self.assertRaises(At, yard.do_all, None)


class OperationsTest(unittest.TestCase):
    def test_names(self):
        yard = Yard()
        for name in ("z", "abcdefgh", "a", "zz"):
            self.assertIsNone(yard.do(operation=("put", name, Row())))
        self.assertEqual(yard.names(), ["a", "abcdefgh", "z", "zz"])
        self.assertEqual((yard.row(name="z"), yard.trains_of(name="z")), (Row(), []))

    def test_counts_in_any_order(self):
        yard = yard_with("a")
        yard.do(("go", "a", ((9, 1), (1, -2), (3, 0))))
        self.assertEqual(yard.row("a"), swept(swept(put("a")[0][2], 9, 1), 1, -2))
        self.assertEqual(yard.log()[1], ("go", "a", ((9, 1), (1, -2), (3, 0))))

    def test_do_all_is_one_step(self):
        yard = Yard()
        self.assertIsNone(yard.do_all(operations=put("a", "b") + [("drop", "a"), ("go", "b", ((1, 1),))]))
        self.assertEqual((yard.names(), len(yard.log())), (["b"], 4))
        self.assertEqual((yard.undo(), yard.names(), yard.log(), yard.undo()), (True, [], [], False))
        self.assertEqual((yard.redo(), yard.names(), len(yard.log()), yard.redo()), (True, ["b"], 4, False))
        self.assertIsNone(yard.do_all(tuple(put("c"))))
        self.assertEqual(yard.names(), ["b", "c"])

    def test_do_all_of_nothing_is_no_step(self):
        yard = yard_with("a")
        yard.do(("drop", "a"))
        yard.undo()
        for empty in ([], ()):
            self.assertIsNone(yard.do_all(empty))
        self.assertEqual((yard.redo(), yard.names(), yard.undo(), yard.undo(), yard.undo()),
                         (True, [], True, True, False))

    def test_operations_that_change_nothing_are_steps(self):
        yard = yard_with("a")
        yard.do(("go", "a", ()))
        yard.do(("go", "a", ((3, 0),)))
        yard.do(("shift", "a", 5))
        self.assertEqual([yard.undo() for _ in range(5)], [True] * 4 + [False])
        self.assertEqual([yard.redo() for _ in range(5)], [True] * 4 + [False])
        yard.undo()
        yard.do(("go", "a", ()))
        self.assertEqual((yard.redo(), len(yard.log())), (False, 4))

    def test_a_refused_operation_does_not_end_what_can_be_redone(self):
        yard = yard_with("a")
        yard.undo()
        self.assertRaises(BadName, yard.do, ("drop", "a"))
        self.assertRaises(At, yard.do_all, [("put", "b", Row()), ("put", "b", Row())])
        self.assertEqual((yard.redo(), yard.names()), (True, ["a"]))

    def test_what_is_kept(self):
        yard = yard_with("a", "b")
        for name in ("a", "b", "a", "b"):
            yard.trains_of(name)
        self.assertEqual(yard.analyses(), 2)

        def more(*operations):
            """How many rows have to be analysed again after these operations."""
            other = yard.copy()
            other.do_all(operations)
            before = other.analyses()
            for name in other.names():
                self.assertEqual(other.trains_of(name), trains(other.row(name)))
            return other.analyses() - before

        self.assertEqual((more(), more(("go", "a", ((1, 3), (2, -9)))), more(("shift", "a", 5))), (0, 0, 0))
        self.assertEqual((more(("add", "a", 2, 1)), more(("put", "c", Row())), more(("drop", "a"))), (1, 1, 0))
        self.assertEqual(more(("drop", "a"), *put("a")), 1)
        self.assertEqual(more(("go", "b", ((1, 1),)), ("add", "b", 9, 1), ("shift", "a", 5)), 1)
        self.assertEqual(more(("add", "b", 3, 1), ("add", "b", 3, -1)), 1)

    def test_undo_and_redo_forget_all_names(self):
        yard = yard_with("a", "b")
        yard.do(("go", "b", ((1, 1),)))
        yard.trains_of("a"), yard.trains_of("b")
        self.assertEqual((yard.redo(), yard.trains_of("a"), yard.analyses()), (False, trains(yard.row("a")), 2))
        self.assertEqual((yard.undo(), yard.analyses()), (True, 2))
        yard.trains_of("a"), yard.trains_of("a"), yard.trains_of("b")
        self.assertEqual((yard.analyses(), yard.redo(), yard.analyses()), (4, True, 4))
        yard.trains_of("a")
        self.assertEqual(yard.analyses(), 5)
        empty = Yard()
        empty.do(("put", "a", Row()))
        empty.undo()
        self.assertEqual((empty.undo(), empty.analyses()), (False, 0))

    def test_only_trains_of_analyses(self):
        yard = yard_with("a", "b")
        yard.do(("go", "a", ((2, 5),)))
        yard.row("a"), yard.names(), yard.log(), yard.copy(), yard == yard.copy(), yard.undo(), yard.redo()
        self.assertEqual(yard.analyses(), 0)
        self.assertRaises(BadName, yard.trains_of, "c")
        self.assertEqual(yard.analyses(), 0)

    def test_copies(self):
        yard = yard_with("a", "b")
        yard.do(("drop", "b"))
        yard.undo()
        yard.trains_of("a")
        other = yard.copy()
        self.assertEqual(state(other), state(yard))
        before = state(yard)
        other.do(("add", "a", 2, 1)), other.trains_of("a"), other.trains_of("b"), other.undo(), other.undo()
        other.trains_of("a") if other.names() else None
        self.assertEqual(state(yard), before)
        other = yard.copy()
        before = state(other)
        yard.trains_of("b"), yard.redo(), yard.do(("put", "c", Row()))
        self.assertEqual(state(other), before)
        self.assertEqual((other.redo(), other.names()), (True, ["a"]))

    def test_what_is_returned_is_new(self):
        yard = yard_with("a", "b")
        before = state(yard)
        for found in (yard.names(), yard.log(), yard.trains_of("a"), yard.trains_of("a")):
            self.assertIs(type(found), list)
            found.clear()
        self.assertEqual((state(yard)[:2], yard.trains_of("a")), (before[:2], trains(yard.row("a"))))

    def test_lists_changed_afterwards(self):
        operations = put("a", "b")
        yard = Yard()
        yard.do_all(operations)
        operations.clear()
        self.assertEqual((yard.names(), len(yard.log())), (["a", "b"], 2))
        self.assertEqual((yard.undo(), yard.redo(), yard.names()), (True, True, ["a", "b"]))


class EqualityTest(unittest.TestCase):
    def test_by_rows_and_names_alone(self):
        one, other = yard_with("a", "b"), yard_with("b", "a")
        self.assertTrue(one == other and not one != other)
        one.trains_of("a"), one.do(("go", "a", ())), other.do(("drop", "a")), other.undo()
        self.assertTrue(one == other and other == one)
        other.do(("add", "a", 2, 1))
        self.assertTrue(one != other and not one == other)
        self.assertFalse(yard_with("a") == yard_with("b"))
        self.assertFalse(yard_with("a") == yard_with("a", "b"))
        self.assertTrue(Yard() == Yard())
        wide, narrow = Yard(), Yard()
        wide.do(("put", "a", Row([(0, 1)], [(3, 2)])))
        narrow.do(("put", "a", Row([(0, 1)])))
        self.assertFalse(wide == narrow)

    def test_no_other_value(self):
        for yard in (Yard(), yard_with("a")):
            for value in any_values() + [{"a": yard}, {}, object()]:
                self.assertIs(yard == value, False)
                self.assertIs(value == yard, False)
                self.assertIs(yard != value, True)


class ErrorClassesTest(unittest.TestCase):
    def test_each_error(self):
        yard = yard_with("a")
        for error, operation in ((BadOperation, ()), (BadName, ("drop", "b")), (BadRow, ("put", "b", 1)),
                                 (BadCounts, ("go", "a", {})), (BadIndex, ("add", "a", "0", 1)),
                                 (BadNumber, ("add", "a", 2, 0)), (BadRow, ("add", "a", 0, 1)),
                                 (BadIndex, ("shift", "a", 0))):
            self.assertRaises(error, yard.do, operation)


if __name__ == "__main__":
    unittest.main()
