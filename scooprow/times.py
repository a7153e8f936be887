"""One box over all sweeps of one capacity, before and after."""

from scooprow.advance import advance
from scooprow.errors import BadCapacity, BadIndex
from scooprow.rows import Row, is_integer
from scooprow.sweeps import is_capacity, mirrored
from scooprow.trains import lengths, trains


def _up_to(row, index):
    """The row without the items behind the box at index."""
    return Row([pair for pair in row.contents if pair[0] <= index], row.capacities)


def _has_reached(row, index):
    return row.contents[-1][0] >= index


def _sweeps_to(row, capacity, index):
    """The least number of sweeps after which an item lies at index or behind it.

    The row has items, and all lie in front of the box at index.
    """
    # The last item lies at the last offset or behind it, but by less than this reach.
    reach = 2 * row.total() + sum([wide for _, wide in row.capacities])
    moving = [(offset, min(capacity, length)) for length, offset in trains(row)]
    low = min([(index - reach - offset) // speed for offset, speed in moving])
    high = min([-((offset - index) // speed) for offset, speed in moving])
    while high - low > 1:
        middle = (low + high) // 2
        if _has_reached(advance(row, {capacity: middle}), index):
            high = middle
        else:
            low = middle
    return high


def _seen_from_now(row, capacity, index):
    """The pairs (n, count) of seen with n from 0 on."""
    found = []
    done = 0
    # What lies behind the box does not come back to it.
    rest = _up_to(row, index)
    while rest.contents:
        more = 1
        if rest.held(index) > 0:
            found.append((done, rest.held(index)))
        else:
            more = _sweeps_to(rest, capacity, index)
        done += more
        rest = _up_to(advance(rest, {capacity: more}), index)
    return found


def seen(row, capacity, index):
    """The list of the pairs (n, count) of all n after which many sweeps the box has items."""
    if not is_capacity(capacity):
        raise BadCapacity("the carrier's capacity is not an integer from 1 to 99")
    if not is_integer(index):
        raise BadIndex("the index is not an integer")
    # Inverse sweeps are sweeps of the mirrored row.
    before = [(-many, count) for many, count in _seen_from_now(mirrored(row), capacity, -index)]
    return sorted([pair for pair in before if pair[0] < 0]) + _seen_from_now(row, capacity, index)


def given_up(row, capacity, index):
    """How many items all sweeps of this capacity pick up at this box together."""
    if not is_capacity(capacity):
        raise BadCapacity("the carrier's capacity is not an integer from 1 to 99")
    # For what is no integer, row.capacity raises BadIndex.
    box_capacity = row.capacity(index)
    return sum([min(box_capacity, length) for length in lengths(row)])
