"""Sweeps: a carrier passes all boxes of a row, in either direction."""

from scooprow.errors import BadCapacity, BadIndex, BadNumber
from scooprow.rows import Row, is_between, is_integer

GREATEST_CAPACITY = 99


def is_capacity(value):
    """Whether value is the capacity of a carrier."""
    return is_between(value, 1, GREATEST_CAPACITY)


def handled(capacity, load, box_capacity, count):
    """How many items a carrier picks up at a box and how many it puts down."""
    return (min(capacity - load, count), min(load, box_capacity - count))


def passed(capacity, load, box_capacity, count):
    """The pair (new count, new load) when a carrier passes a box."""
    if not is_capacity(capacity) or not is_between(load, 0, capacity):
        raise BadNumber("the carrier's capacity or load is not valid")
    if not is_capacity(box_capacity) or not is_between(count, 0, box_capacity):
        raise BadNumber("the box's capacity or count is not valid")
    up, down = handled(capacity, load, box_capacity, count)
    return (count - up + down, load + up - down)


def _steps_from(row, capacity, start):
    """The steps of a carrier without load from the box at start, until it has none again."""
    steps = []
    index = start
    load = 0
    while load > 0 or not steps:
        count = row.held(index)
        new_count, new_load = passed(capacity, load, row.capacity(index), count)
        steps.append((index, load, count, new_load, new_count))
        index += 1
        load = new_load
    return steps


def trace(row, capacity):
    """The list of tuples (index, load, count, new load, new count) of a sweep.

    It tells of the boxes where load or count is not 0 before the step.
    """
    if not is_capacity(capacity):
        raise BadCapacity("the carrier's capacity is not an integer from 1 to 99")
    steps = []
    # Between two groups of steps nothing happens, however far apart they are.
    for start, _ in row.contents:
        if not steps or steps[-1][0] < start:
            steps.extend(_steps_from(row, capacity, start))
    return steps


def _left_by(steps):
    """The contents of the boxes that these steps passed."""
    return [(index, new_count) for index, _, _, _, new_count in steps if new_count > 0]


def sweep(row, capacity):
    """The row after a sweep."""
    # A box that is not in the trace was empty and stays so.
    return Row(_left_by(trace(row, capacity)), row.capacities)


def mirrored(row):
    """The row with left and right exchanged: the box at index stands at -index."""
    contents = [(-index, count) for index, count in row.contents]
    return Row(contents, [(-index, capacity) for index, capacity in row.capacities])


def unsweep(row, capacity):
    """The row whose sweep this row is."""
    # Passing a box undoes itself, so going back is a sweep from right to left.
    return mirrored(sweep(mirrored(row), capacity))


def picked(row, capacity):
    """How many items the carrier picks up in the sweep."""
    return sum([min(capacity - load, count) for _, load, count, _, _ in trace(row, capacity)])


def halfway(row, capacity, index):
    """The pair (row, load) when the carrier is behind the box at index."""
    steps = trace(row, capacity)
    if not is_integer(index):
        raise BadIndex("the index is not an integer")
    done = [step for step in steps if step[0] <= index]
    if not done:
        return (row, 0)
    ahead = [(place, count) for place, count in row.contents if place > index]
    # Also at a gap behind the last step this is the load: it is 0 there.
    return (Row(_left_by(done) + ahead, row.capacities), done[-1][3])
