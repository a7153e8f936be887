"""One box over all sweeps of one capacity, before and after."""

from scooprow.advance import moved
from scooprow.errors import BadCapacity, BadIndex
from scooprow.rows import Row, is_integer
from scooprow.sweeps import is_capacity, mirrored, sweep
from scooprow.trains import lengths, row_of, trains


def _up_to(row, index):
    """The row without what is behind the box at index."""
    return Row([pair for pair in row.contents if pair[0] <= index],
               [pair for pair in row.capacities if pair[0] <= index])


def _last_indexes(found):
    """For each of the trains of a plain row an index; the greatest is that of the last item.

    The index of a train is where its last item would lie if it were the last of
    all: the offset, two boxes further for each box that another train has up to
    this length (the pairs that row_of puts in on the left), and its own length.
    """
    return [offset + 2 * sum([min(length, other) for other, _ in found]) - length - 1
            for length, offset in found]


def _calm_sweeps(found, capacity, index):
    """The greatest number of sweeps after which all items still lie in front of index.

    These are the trains of a row with all items and wide boxes in front of
    index; behind its wide boxes its plain form has the same items.
    """
    return min([(index - 1 - last) // min(capacity, length)
                for (length, _), last in zip(found, _last_indexes(found))])


def _before_next(row, capacity, index):
    """The pair (number of sweeps, row after them), just before an item comes to the box at index.

    The row has items, and all lie in front of this box. Until one of them
    comes to it, the box is as good as one that is not wide.
    """
    in_front = [pair for pair in row.capacities if pair[0] < index]
    found = trains(Row(row.contents, in_front))
    many = _calm_sweeps(found, capacity, index)
    near = row_of(moved(found, {capacity: many}), in_front)
    return (many, Row(near.contents, row.capacities))


def _seen_from_now(row, capacity, index):
    """The pairs (n, count) of seen with n from 0 on."""
    found = []
    done = 0
    # What lies behind the box does not come back to it.
    rest = _up_to(row, index)
    while rest.contents:
        if rest.held(index) > 0:
            found.append((done, rest.held(index)))
        else:
            many, rest = _before_next(rest, capacity, index)
            done += many
        rest = _up_to(sweep(rest, capacity), index)
        done += 1
    return found


def seen(row, capacity, index):
    """The list of the pairs (n, count) of all n after which many sweeps the box has items."""
    if not is_capacity(capacity):
        raise BadCapacity("the carrier's capacity is not an integer from 1 to 99")
    if not is_integer(index):
        raise BadIndex("the index is not an integer")
    # Inverse sweeps are sweeps of the mirrored row.
    before = [(-many, count) for many, count in _seen_from_now(mirrored(row), capacity, -index)]
    return sorted([pair for pair in before if pair[0] < 0]) + _seen_from_now(row, capacity, index)


def given_up(row, capacity, index):
    """How many items all sweeps of this capacity pick up at this box together."""
    if not is_capacity(capacity):
        raise BadCapacity("the carrier's capacity is not an integer from 1 to 99")
    # For what is no integer, row.capacity raises BadIndex.
    box_capacity = row.capacity(index)
    return sum([min(box_capacity, length) for length in lengths(row)])
