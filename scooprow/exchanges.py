"""Exchanges: two adjacent holders change places, and wide boxes move through a row."""

from scooprow.errors import BadHolder, BadIndex, BadRow
from scooprow.rows import FIRST_WIDE_INDEX, Row, is_between, is_pair, is_plain_row, is_row_like
from scooprow.sweeps import is_capacity, passed, sweep, unsweep


def _is_holder(value):
    return is_pair(value) and is_capacity(value[0]) and is_between(value[1], 0, value[0])


def exchanged(left, right):
    """The pair of holders (new left, new right) after the exchange of two."""
    if not _is_holder(left) or not _is_holder(right):
        raise BadHolder("a holder is not a pair (capacity, count)")
    count, load = passed(left[0], left[1], right[0], right[1])
    return ((right[0], count), (left[0], load))


def _with_two(pairs, index, left, right):
    """The pairs with new second parts at index - 1 and index."""
    kept = [pair for pair in pairs if pair[0] not in (index - 1, index)]
    return kept + [(index - 1, left), (index, right)]


def shifted(row, index):
    """The row after the wide box at index is exchanged with the box on its left."""
    # For what is no integer, row.capacity raises the same error.
    if row.capacity(index) == 1 or index == FIRST_WIDE_INDEX:
        raise BadIndex("the index is not that of a wide box that can be shifted")
    left, right = exchanged((row.capacity(index - 1), row.held(index - 1)),
                            (row.capacity(index), row.held(index)))
    contents = _with_two(row.contents, index, left[1], right[1])
    capacities = _with_two(row.capacities, index, left[0], right[0])
    return Row([(place, count) for place, count in contents if count > 0],
               [(place, capacity) for place, capacity in capacities if capacity > 1])


def _without_box(contents, index, capacity):
    """Plain contents up to index, once the wide box there is shifted to the far left and removed.

    On its way the wide box does what a carrier does that comes from the right
    and takes the items out of it first.
    """
    near = Row([pair for pair in contents if pair[0] <= index], [(index, capacity)])
    return [(place + 1, count) for place, count in unsweep(near, capacity).contents]


def plain_form(row):
    """The plain row that is left once all wide boxes are shifted out."""
    contents = row.contents
    for index, capacity in row.capacities:
        behind = [pair for pair in contents if pair[0] > index]
        contents = _without_box(contents, index, capacity) + behind
    return Row(contents)


def _with_box(contents, index, capacity):
    """The contents up to index whose _without_box are these plain contents up to index."""
    near = Row([(place - 1, count) for place, count in contents if place <= index],
               [(index, capacity)])
    return list(sweep(near, capacity).contents)


def with_capacities(row, capacities):
    """The row with these capacities whose plain form is row."""
    if not is_plain_row(row):
        raise BadRow("plain")
    if not is_row_like((), capacities):
        raise BadRow("capacities")
    contents = row.contents
    # The box that plain_form removes last comes back first.
    for index, capacity in sorted(capacities, reverse=True):
        behind = [pair for pair in contents if pair[0] > index]
        contents = _with_box(contents, index, capacity) + behind
    return Row(contents, capacities)
