"""Many sweeps at once: every train goes its way, however many sweeps there are."""

from scooprow.errors import BadCounts, BadRow
from scooprow.rows import is_integer, is_plain_row
from scooprow.sweeps import is_capacity
from scooprow.trains import lengths, row_of, runs_in, trains


def is_counts(value):
    """Whether value is a dict from capacities to numbers of sweeps."""
    if not isinstance(value, dict):
        return False
    return all([is_capacity(capacity) and is_integer(many) for capacity, many in value.items()])


def way(length, counts):
    """How far these sweeps move a train of this length."""
    return sum([many * min(capacity, length) for capacity, many in counts.items()])


def moved(found, counts):
    """The list of these trains after all these sweeps, in the same order."""
    return [(length, offset + way(length, counts)) for length, offset in found]


def advance(row, counts):
    """The row after all these sweeps."""
    if not is_counts(counts):
        raise BadCounts("the counts are not a dict from capacities to numbers of sweeps")
    return row_of(moved(trains(row), counts), row.capacities)


def picked_in_all(row, counts):
    """The dict of the numbers of items that all sweeps of each capacity pick up."""
    if not is_counts(counts):
        raise BadCounts("the counts are not a dict from capacities to numbers of sweeps")
    found = lengths(row)
    return {capacity: counts[capacity] * sum([min(capacity, length) for length in found])
            for capacity in sorted(counts)}


def sorted_after(row):
    """The least number of long sweeps after which the plain form is sorted."""
    # A row is sorted where the offsets, in the order of the lengths, do not
    # decrease. A long sweep moves each train by its length.
    found = trains(row)
    least = 0
    for (length, offset), (next_length, next_offset) in zip(found, found[1:]):
        if length < next_length:
            least = max(least, -((next_offset - offset) // (next_length - length)))
    return least


def runs(row):
    """The list of the pairs (first index, length) of the runs of a plain row, ascending."""
    if not is_plain_row(row):
        raise BadRow("plain")
    return runs_in(row)
