"""Observations: which sweeps may have happened, by what was seen of a row."""

from scooprow.advance import way
from scooprow.errors import (
    BadCapacity, BadLimits, BadLook, BadNumber, BadVector, Crowded, Inconsistent)
from scooprow.rows import Row, are_pairs, ascends, is_between, is_integer
from scooprow.sweeps import is_capacity
from scooprow.trains import row_of, trains

MOST_CARRIERS = 4
GREATEST_LIMIT = 9
MOST_VECTORS = 1000


def _are_limits(value):
    if not are_pairs(value) or not 1 <= len(value) <= MOST_CARRIERS:
        return False
    if not ascends([capacity for capacity, _ in value]):
        return False
    return all([is_capacity(capacity) and is_between(limit, 1, GREATEST_LIMIT)
                for capacity, limit in value])


def _is_look(value, row):
    """Whether value is a list of pairs (index, count) that boxes like those of row can hold."""
    if not are_pairs(value):
        return False
    return all([0 <= count <= row.capacity(index) for index, count in value])


def _is_stretch(vector, limits):
    """Whether a vector is made of so many sweeps as one stretch may have."""
    return all([0 <= many <= limit for many, (_, limit) in zip(vector, limits)])


def _less(vector, other):
    return tuple([many - other_many for many, other_many in zip(vector, other)])


def _with_stretch(vectors, limits):
    """The ascending list of all sums of one of these vectors and that of a stretch."""
    sums = vectors
    for place, (_, limit) in enumerate(limits):
        sums = sorted({vector[:place] + (vector[place] + more,) + vector[place + 1:]
                       for vector in sums for more in range(limit + 1)})
        # The sweeps of further carriers never make the sums fewer.
        if len(sums) > MOST_VECTORS:
            raise Crowded("more than 1000 vectors would have to be looked at")
    return sums


class Watch:
    """What may have happened to a known row between the observations of it."""

    def __init__(self, row, limits):
        if not _are_limits(limits):
            raise BadLimits("the limits are not 1 to 4 ascending pairs (capacity, limit)")
        zero = tuple([0 for _ in limits])
        self._first = row
        self._trains = trains(row)
        self._lengths = sorted(set([length for length, _ in self._trains]))
        self._limits = tuple(limits)
        # The possible vectors in the beginning and after each observation.
        self._possible = [[zero]]
        self._rows = {self._ways(zero): row}

    def _ways(self, vector):
        """How far a vector moves the trains of each length; this is the same only for equal rows."""
        counts = {capacity: many for (capacity, _), many in zip(self._limits, vector)}
        return tuple([way(length, counts) for length in self._lengths])

    def _row_after(self, ways):
        far = dict(zip(self._lengths, ways))
        moved = [(length, offset + far[length]) for length, offset in self._trains]
        return row_of(moved, self._first.capacities)

    def _rows_after(self, vectors):
        """The dict from the ways of these vectors to their rows, in the order of the vectors."""
        rows = {}
        for vector in vectors:
            ways = self._ways(vector)
            if ways in self._rows:
                rows[ways] = self._rows[ways]
            elif ways not in rows:
                rows[ways] = self._row_after(ways)
        return rows

    def _keep(self, vectors, rows):
        """Of these vectors, only those that lead to one of these rows are possible now."""
        possible = [vector for vector in vectors if self._ways(vector) in rows]
        if not possible:
            raise Inconsistent(self.many())
        self._possible.append(possible)
        self._rows = rows
        return len(possible)

    def look(self, counts):
        """A stretch has passed and some boxes are seen; the number of possible vectors."""
        if not _is_look(counts, self._first):
            raise BadLook("the counts are not a list of pairs (index, count)")
        vectors = _with_stretch(self._possible[-1], self._limits)
        rows = self._rows_after(vectors)
        return self._keep(vectors, {ways: row for ways, row in rows.items()
                                    if all([row.held(index) == count for index, count in counts])})

    def look_all(self, row):
        """A stretch has passed and the whole row is seen; the number of possible vectors."""
        if not isinstance(row, Row) or row.capacities != self._first.capacities:
            raise BadLook("what is seen is not a row with the capacities of the first one")
        vectors = _with_stretch(self._possible[-1], self._limits)
        rows = self._rows_after(vectors)
        return self._keep(vectors, {ways: after for ways, after in rows.items() if after == row})

    def possible(self):
        """The ascending list of the possible vectors."""
        return list(self._possible[-1])

    def outcomes(self):
        """The list of the different rows to which the possible vectors lead."""
        return list(self._rows.values())

    def counts_at(self, index):
        """The ascending list of the numbers of items that the box at index may have."""
        # For what is no integer, row.held raises BadIndex.
        return sorted({row.held(index) for row in self._rows.values()})

    def many(self):
        """The number of observations."""
        return len(self._possible) - 1

    def _is_possible(self, vector):
        if not isinstance(vector, tuple) or not all([is_integer(many) for many in vector]):
            return False
        return vector in self._possible[-1]

    def history(self, vector):
        """The list of the vectors of the stretches that may have led to a possible vector."""
        if not self._is_possible(vector):
            raise BadVector("the vector is not possible")
        stretches = []
        end = vector
        for earlier in reversed(self._possible[:-1]):
            begin = [start for start in earlier if _is_stretch(_less(end, start), self._limits)][0]
            stretches.append(_less(end, begin))
            end = begin
        return stretches[::-1]

    def sure(self, capacity, low, high):
        """Whether this carrier made from low to high sweeps in all: yes, no or open."""
        capacities = [known for known, _ in self._limits]
        if not is_integer(capacity) or capacity not in capacities:
            raise BadCapacity("the capacity is not one of the limits")
        if not is_integer(low) or not is_integer(high):
            raise BadNumber("the numbers are not integers")
        place = capacities.index(capacity)
        inside = [low <= vector[place] <= high for vector in self._possible[-1]]
        if all(inside):
            return "yes"
        return "open" if any(inside) else "no"

    def _vectors_by_count(self):
        """For each index with items the dict from counts above 0 to how many vectors lead to them."""
        found = {}
        for vector in self._possible[-1]:
            for index, count in self._rows[self._ways(vector)].contents:
                tally = found.setdefault(index, {})
                tally[count] = tally.get(count, 0) + 1
        return found

    def probe(self):
        """The index of the box whose count would tell most, None if no box would tell anything."""
        if len(self._rows) == 1:
            return None
        every = len(self._possible[-1])
        best = None
        # A box without items in all of the rows would leave all vectors.
        tallies = self._vectors_by_count()
        for index in sorted(tallies):
            tally = tallies[index]
            worst = max(every - sum(tally.values()), max(tally.values()))
            if best is None or worst < best[0]:
                best = (worst, index)
        return best[1]
