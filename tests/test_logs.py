import random
import unittest

from helper import FAR, any_values, changes, sample_rows
from scooprow.errors import At
from scooprow.logs import entries, first_wrong
from scooprow.rows import Row
from scooprow.yards import Yard
from test_yards import put, random_operation, slow_operation


def slow_rows(rows):
    return tuple((name, rows[name].contents) for name in sorted(rows))


def slow_first_wrong(log):
    """The index of the first wrong entry, by the rules of a yard."""
    if not isinstance(log, (list, tuple)):
        return 0
    rows = {}
    for k, entry in enumerate(log):
        if type(entry) is not tuple or len(entry) != 2:
            return k
        rows = slow_operation(rows, entry[0])
        if isinstance(rows, tuple) or repr(entry[1]) != repr(slow_rows(rows)):
            return k
    return None


def right_operations(source, many):
    """Operations none of which is refused."""
    found, rows = [], {}
    while len(found) < many:
        operation = random_operation(source, rows)
        after = slow_operation(rows, operation)
        if isinstance(after, dict):
            found.append(operation)
            rows = after
    return found


def some_operations():
    row = Row([(0, 2), (1, 1), (FAR, 1)], [(0, 3)])
    return [("put", "b", row), ("put", "a", Row()), ("go", "b", ((2, 1), (1, -1))), ("add", "b", 5, 1),
            ("add", "a", 1, 1), ("shift", "b", 0), ("go", "a", ()), ("drop", "b")]


class EntriesTest(unittest.TestCase):
    def test_small_list(self):
        found = entries(operations=some_operations()[:3] + [("drop", "a")])
        self.assertEqual([rows for _, rows in found], [
            (("b", ((0, 2), (1, 1), (FAR, 1))),),
            (("a", ()), ("b", ((0, 2), (1, 1), (FAR, 1)))),
            (("a", ()), ("b", found[2][1][1][1])),
            (("b", found[2][1][1][1]),)])
        self.assertEqual([operation for operation, _ in found], some_operations()[:3] + [("drop", "a")])
        self.assertEqual({type(entry) for entry in found}, {tuple})
        self.assertEqual((entries([]), entries(())), ([], []))

    def test_against_the_rules(self):
        source = random.Random(110)
        for _ in range(30):
            operations = right_operations(source, source.randint(0, 12))
            rows, expected = {}, []
            for operation in operations:
                rows = slow_operation(rows, operation)
                expected.append(slow_rows(rows))
            for given in (operations, tuple(operations)):
                found = entries(given)
                self.assertIs(type(found), list)
                self.assertEqual([operation for operation, _ in found], operations)
                self.assertEqual(repr([after for _, after in found]), repr(expected))

    def test_as_the_log_of_a_yard(self):
        yard = Yard()
        yard.do_all(some_operations())
        self.assertEqual(entries(yard.log()), entries(some_operations()))

    def test_refused_operations(self):
        operations = some_operations()
        for k in range(len(operations) + 1):
            for value in any_values() + [("drop", "c"), ("put", "B", Row())]:
                with self.assertRaises(At) as caught:
                    entries(operations[:k] + [value] + operations[k:])
                self.assertEqual((caught.exception.k, type(caught.exception.k)), (k, int))
        for k in range(1, len(operations)):
            self.assertRaises(At, entries, operations[:k] + [("put", "b", Row())] + operations[k:])

    def test_no_list(self):
        for value in any_values():
            if not isinstance(value, (list, tuple)):
                with self.assertRaises(At) as caught:
                    entries(value)
                self.assertEqual(caught.exception.k, 0)

    def test_lists_are_new(self):
        operations = some_operations()
        found = entries(operations)
        operations.clear()
        self.assertEqual(first_wrong(found), None)
        found.clear()
        self.assertEqual(len(entries(some_operations())), 8)


class FirstWrongTest(unittest.TestCase):
    def test_right_logs(self):
        source = random.Random(111)
        for log in [[], (), entries(some_operations())] + [
                entries(right_operations(source, source.randint(1, 15))) for _ in range(30)]:
            self.assertIsNone(first_wrong(log))
            self.assertIsNone(first_wrong(log=tuple(log)))

    def test_one_change(self):
        tried = {}
        for operations in (some_operations(), put("a", "c", "b"), [("put", "a", Row([(1, 1)])), ("add", "a", 0, 1)]):
            log = entries(operations)
            for changed in changes(log):
                expected = slow_first_wrong(changed)
                self.assertEqual(first_wrong(changed), expected)
                tried[expected] = tried.get(expected, 0) + 1
        self.assertGreater(min(tried[k] for k in range(8)), 20)

    def test_changes_of_random_logs(self):
        source = random.Random(112)
        for _ in range(12):
            log = entries(right_operations(source, 3))
            for changed in list(changes(log))[::5]:
                self.assertEqual(first_wrong(changed), slow_first_wrong(changed))

    def test_true_is_not_1(self):
        row = Row([(1, 1)])
        right = (("put", "a", row), (("a", ((1, 1),)),))
        self.assertIsNone(first_wrong([right]))
        for rows in ((("a", ((True, 1),)),), (("a", ((1, True),)),), (("a", [(1, 1)]),), (("a", ([1, 1],)),),
                     [("a", ((1, 1),))], (["a", ((1, 1),)],), (("a", ((1, 1),)), ("b", ())), (), (("a", ()),),
                     (("b", ((1, 1),)),), (("a", ((1, 2),)),), (("a", row),), {"a": ((1, 1),)}, None):
            self.assertEqual(first_wrong([(("put", "a", row), rows)]), 0)
            later = [right, (("put", "b", Row()), (("a", ((1, 1),)), ("b", ()))), (("drop", "b"), rows)]
            self.assertEqual(first_wrong(later), 2)
        for operation in (["put", "a", row], ("put", "a", ((1, 1),)), ("put", "A", row), ("put", "a"), "put", None):
            self.assertEqual(first_wrong([(operation, right[1])]), 0)
        go = (("go", "a", ((1, 0),)), right[1])
        self.assertIsNone(first_wrong([right, go, go]))
        for counts in (((True, 0),), ((1, False),), [(1, 0)], ([1, 0],), {1: 0}, ((1, 0), (1, 0)), ((1, 1),)):
            self.assertEqual(first_wrong([right, go, (("go", "a", counts), right[1])]), 2)

    def test_an_order_that_does_not_ascend(self):
        log = entries(put("a", "b"))
        self.assertEqual(first_wrong([log[0], (log[1][0], log[1][1][::-1])]), 1)
        self.assertEqual(first_wrong(log[::-1]), 0)
        self.assertEqual(first_wrong(log[1:]), 0)
        self.assertEqual(first_wrong(log + log[:1]), 2)

    def test_no_list(self):
        for value in any_values():
            if not isinstance(value, (list, tuple)):
                self.assertEqual(repr(first_wrong(value)), "0")

    def test_any_value(self):
        log = entries(some_operations()[:2])
        for value in any_values():
            self.assertEqual(first_wrong(value), slow_first_wrong(value))
            self.assertEqual(first_wrong([value]), 0)
            self.assertEqual(first_wrong(log + [value]), 2)
            self.assertEqual(first_wrong(log + [(value, log[-1][1])]), 2)
            self.assertEqual(first_wrong(log + [(("go", "b", ()), value)]), 2)
            self.assertEqual(first_wrong(log + [(("go", "b", ()), (value, value))]), 2)

    def test_logs_stay(self):
        for row in sample_rows()[::6]:
            log = entries([("put", "a", row), ("go", "a", ((3, 2),))])
            before = list(log)
            first_wrong(log)
            self.assertTrue(len(log) == 2 and log == before)


if __name__ == "__main__":
    unittest.main()
