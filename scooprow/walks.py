"""Carriers that are under way at once in one row, step by step."""

from scooprow.errors import Apart, BadCapacity, BadCarrier, Blocked
from scooprow.exchanges import exchanged
from scooprow.rows import Row, is_between
from scooprow.sweeps import handled, is_capacity, sweep

MOST_CARRIERS = 6


def _are_carriers(value):
    if not isinstance(value, (list, tuple)) or not 1 <= len(value) <= MOST_CARRIERS:
        return False
    return all([is_capacity(capacity) for capacity in value])


def _first_index(row):
    """The least index of a box that has items or is wide, 0 if there is none."""
    return min([index for index, _ in row.contents + row.capacities], default=0)


class Walk:
    """Carriers that pass the boxes of one row, each at its own pace."""

    def __init__(self, row, capacities):
        if not _are_carriers(capacities):
            raise BadCapacity("the capacities are not those of 1 to 6 carriers")
        start = _first_index(row)
        self._row = row
        self._count_at = dict(row.contents)
        self._carriers = [(start, capacity, 0) for capacity in capacities]

    def _holder(self, k):
        _, capacity, load = self._carriers[k]
        return (capacity, load)

    def step(self, k):
        """Carrier k passes its next box; the pair (picked, put)."""
        index, capacity, load = self.at(k)
        if k > 0 and self._carriers[k - 1][0] == index:
            raise Blocked(k)
        count = self._count_at.get(index, 0)
        picked, put = handled(capacity, load, self._row.capacity(index), count)
        self._count_at[index] = count - picked + put
        self._carriers[k] = (index + 1, capacity, load + picked - put)
        return (picked, put)

    def swap(self, k):
        """Carriers k and k + 1, in front of the same box, are exchanged as holders."""
        if not is_between(k, 0, len(self._carriers) - 2):
            raise BadCarrier(k)
        index = self._carriers[k][0]
        if self._carriers[k + 1][0] != index:
            raise Apart(k)
        behind, ahead = exchanged(self._holder(k + 1), self._holder(k))
        self._carriers[k] = (index, *ahead)
        self._carriers[k + 1] = (index, *behind)

    def at(self, k):
        """The tuple (index of the next box, capacity, load) of carrier k."""
        if not is_between(k, 0, len(self._carriers) - 1):
            raise BadCarrier(k)
        return self._carriers[k]

    def now(self):
        """The row as it is; what is carried is in no box."""
        contents = [(index, count) for index, count in self._count_at.items() if count > 0]
        return Row(contents, self._row.capacities)

    def ended(self):
        """The row after all carriers have gone on to the end."""
        # However far the carriers have come, and in whatever order they went,
        # the row is that of their sweeps one after another.
        row = self._row
        for _, capacity, _ in self._carriers:
            row = sweep(row, capacity)
        return row

    def copy(self):
        """An independent walk that stands as this one does."""
        other = Walk(self._row, [capacity for _, capacity, _ in self._carriers])
        other._count_at = dict(self._count_at)
        other._carriers = list(self._carriers)
        return other
