"""Rows: the items in the boxes, and the boxes that are wide."""

from scooprow.errors import BadIndex, BadRow

MOST_ITEMS = 40
MOST_WIDE_BOXES = 6
FIRST_WIDE_INDEX = -60
LAST_WIDE_INDEX = 60
LEAST_WIDE_CAPACITY = 2
GREATEST_WIDE_CAPACITY = 9


def is_integer(value):
    """Whether value is an integer; True and False are none."""
    return isinstance(value, int) and not isinstance(value, bool)


def is_between(value, low, high):
    """Whether value is an integer from low to high."""
    return is_integer(value) and low <= value <= high


def is_pair(value):
    """Whether value is a pair of integers."""
    if not isinstance(value, tuple) or len(value) != 2:
        return False
    return is_integer(value[0]) and is_integer(value[1])


def are_pairs(value):
    """Whether value is a list of pairs of integers with different first parts."""
    if not isinstance(value, (list, tuple)):
        return False
    if not all([is_pair(part) for part in value]):
        return False
    return len({first for first, _ in value}) == len(value)


def ascends(values):
    """Whether each of these integers is greater than the one before it."""
    return all([value < following for value, following in zip(values, values[1:])])


def is_same(value, expected):
    """Whether value is what is expected, of integers, strings and tuples of these.

    It is asked of values that are judged, where 1 and True, or a list and a
    tuple, are not the same.
    """
    if isinstance(expected, tuple):
        if not isinstance(value, tuple) or len(value) != len(expected):
            return False
        return all([is_same(part, wanted) for part, wanted in zip(value, expected)])
    if isinstance(expected, str):
        return isinstance(value, str) and value == expected
    return is_integer(value) and value == expected


def _is_wide_box(index, capacity):
    if not is_between(index, FIRST_WIDE_INDEX, LAST_WIDE_INDEX):
        return False
    return is_between(capacity, LEAST_WIDE_CAPACITY, GREATEST_WIDE_CAPACITY)


def _are_capacities(value):
    if not are_pairs(value) or len(value) > MOST_WIDE_BOXES:
        return False
    return all([_is_wide_box(index, capacity) for index, capacity in value])


def _are_contents(value, capacities):
    if not are_pairs(value):
        return False
    wide = dict(capacities)
    if not all([1 <= count <= wide.get(index, 1) for index, count in value]):
        return False
    return sum([count for _, count in value]) <= MOST_ITEMS


def is_row_like(contents, capacities):
    """Whether Row accepts these two values."""
    return _are_capacities(capacities) and _are_contents(contents, capacities)


class Row:
    """A row of boxes without end; it never changes."""

    def __init__(self, contents=(), capacities=()):
        if not _are_capacities(capacities):
            raise BadRow("capacities")
        if not _are_contents(contents, capacities):
            raise BadRow("contents")
        self._contents = tuple(sorted(contents))
        self._capacities = tuple(sorted(capacities))
        self._count_at = dict(contents)
        self._capacity_at = dict(capacities)

    @property
    def contents(self):
        """The pairs (index, count) of the boxes with items, ascending."""
        return self._contents

    @property
    def capacities(self):
        """The pairs (index, capacity) of the wide boxes, ascending."""
        return self._capacities

    def held(self, index):
        """The number of items in the box at index."""
        if not is_integer(index):
            raise BadIndex("the index is not an integer")
        return self._count_at.get(index, 0)

    def capacity(self, index):
        """The capacity of the box at index."""
        if not is_integer(index):
            raise BadIndex("the index is not an integer")
        return self._capacity_at.get(index, 1)

    def total(self):
        """The number of items in the row."""
        return sum([count for _, count in self._contents])

    def is_plain(self):
        """Whether the row has no wide box."""
        return not self._capacities

    def __eq__(self, other):
        return (isinstance(other, Row) and self._contents == other._contents
                and self._capacities == other._capacities)


def is_plain_row(value):
    """Whether value is a row without wide boxes."""
    return isinstance(value, Row) and value.is_plain()
