"""From row to row: sweeps that lead from the one to the other, or what is in their way."""

from scooprow.errors import BadRow
from scooprow.trains import trains


def _offsets_by_length(row):
    """The dict from the lengths of the trains of a row to their offsets, all ascending."""
    found = {}
    for length, offset in trains(row):
        found.setdefault(length, []).append(offset)
    return found


def offsets_of_both(row, other):
    """For each of two rows with the same capacities the dict from lengths to offsets."""
    if row.capacities != other.capacities:
        raise BadRow("capacities")
    return (_offsets_by_length(row), _offsets_by_length(other))


def differ_in_number(before, after, length):
    """Whether the two rows have different numbers of trains of this length."""
    return len(before.get(length, ())) != len(after.get(length, ()))


def uneven_positions(before, after, length):
    """The positions whose move is not that of position 0, for trains of this length."""
    moves = [new - old for old, new in zip(before.get(length, ()), after.get(length, ()))]
    return [position for position, move in enumerate(moves) if move != moves[0]]


def unlikeness(before, after):
    """The first obstruction that no sweeps at all can overcome, None if there is none."""
    every_length = sorted(set(list(before) + list(after)))
    for length in every_length:
        if differ_in_number(before, after, length):
            return ("length", length)
    for length in every_length:
        positions = uneven_positions(before, after, length)
        if positions:
            return ("apart", length, positions[0])
    return None


def distances(before, after):
    """The dict from 0 and each length to the distance that its trains have to move."""
    far = {0: 0}
    for length in before:
        far[length] = after[length][0] - before[length][0]
    return far


def steep_pairs(far):
    """The adjacent lengths behind which the distances rise too much for forward sweeps."""
    points = list(far.items())
    # Each further length makes at most as much of a difference as the one before
    # it, and these differences are integers.
    return [(a, b) for (a, at_a), (b, at_b), (c, at_c) in zip(points, points[1:], points[2:])
            if (at_b - at_a) // (b - a) < -((at_b - at_c) // (c - b))]


def falling_pairs(far):
    """The adjacent lengths of which the greater one has to move less."""
    points = list(far.items())
    return [(a, b) for (a, at_a), (b, at_b) in zip(points, points[1:]) if at_b < at_a]


def _even_counts(far):
    """Counts that move the trains of each length so far, by strides as even as possible.

    The stride of a length is by how much more its trains move than those of the
    next smaller length: the number of sweeps of at least this capacity. The
    strides between two lengths that occur are free but for their sum.
    """
    points = list(far.items())
    strides = []
    for (a, at_a), (b, at_b) in zip(points, points[1:]):
        stride, greater = divmod(at_b - at_a, b - a)
        strides.extend([stride + 1] * greater + [stride] * (b - a - greater))
    strides.append(0)
    return {k + 1: strides[k] - strides[k + 1] for k in range(len(strides) - 1)
            if strides[k] != strides[k + 1]}


def connect(row, other, *, backward=True):
    """("sweeps", counts) with counts that lead from row to other, or the first obstruction."""
    before, after = offsets_of_both(row, other)
    found = unlikeness(before, after)
    if found is not None:
        return found
    far = distances(before, after)
    if not backward:
        steep = steep_pairs(far)
        if steep:
            return ("steep",) + steep[0]
        # Where nothing is steep, the last two fall if any do.
        falling = falling_pairs(far)
        if falling:
            return ("falling",) + falling[-1]
    return ("sweeps", _even_counts(far))


def fewest(row, other):
    """The answer of connect without inverse sweeps, with as few sweeps as possible."""
    # The number of all sweeps is the first stride: even strides make it least.
    return connect(row, other, backward=False)


def least_number(row, other):
    """The least number of sweeps that lead from row to other, None if none do."""
    word, *rest = fewest(row, other)
    if word != "sweeps":
        return None
    return sum(rest[0].values())
