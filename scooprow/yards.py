"""Yards: rows by names, with operations that can be undone and redone."""

from scooprow.advance import advance, moved
from scooprow.errors import (
    At, BadCounts, BadIndex, BadName, BadNumber, BadOperation, BadRow, ScoopError)
from scooprow.exchanges import shifted
from scooprow.rows import Row, are_pairs, is_integer
from scooprow.trains import trains

MOST_ROWS = 12
LONGEST_NAME = 8
PARTS = {"put": 3, "drop": 2, "go": 3, "add": 4, "shift": 3}


def _is_operation(value):
    """Whether value is a tuple of a known word with as many parts as it takes."""
    if not isinstance(value, tuple) or len(value) == 0 or not isinstance(value[0], str):
        return False
    return len(value) == PARTS.get(value[0], 0)


def _is_name(value):
    if not isinstance(value, str) or not 1 <= len(value) <= LONGEST_NAME:
        return False
    return all(["a" <= letter <= "z" for letter in value])


def _check_name(rows, word, name):
    """Raise BadName unless an operation of this word may have this name."""
    if not _is_name(name):
        raise BadName(name)
    if word == "put" and (name in rows or len(rows) >= MOST_ROWS):
        raise BadName(name)
    if word != "put" and name not in rows:
        raise BadName(name)


def _checked_row(value):
    if not isinstance(value, Row):
        raise BadRow("value")
    return value


def _gone(row, counts):
    """The row after the sweeps of a tuple of pairs (capacity, number)."""
    if not isinstance(counts, tuple) or not are_pairs(counts):
        raise BadCounts("the counts are not a tuple of pairs (capacity, number of sweeps)")
    # For capacities that no carrier has, advance raises BadCounts.
    return advance(row, dict(counts))


def _with_added(row, index, amount):
    """The row with so many more items in the box at index."""
    if not is_integer(index):
        raise BadIndex("the index is not an integer")
    if not is_integer(amount) or amount == 0:
        raise BadNumber("the amount is not an integer other than 0")
    count = row.held(index) + amount
    contents = [pair for pair in row.contents if pair[0] != index]
    if count != 0:
        contents.append((index, count))
    # Where the box or the row would have too many or too few items, there is no such row.
    return Row(contents, row.capacities)


def _rows_after(rows, operation):
    """The new dict of the rows by names after an operation."""
    if not _is_operation(operation):
        raise BadOperation("the operation is not a tuple of a known word with its parts")
    word, name, *parts = operation
    _check_name(rows, word, name)
    after = dict(rows)
    if word == "put":
        after[name] = _checked_row(parts[0])
    elif word == "drop":
        del after[name]
    elif word == "go":
        after[name] = _gone(rows[name], parts[0])
    elif word == "add":
        after[name] = _with_added(rows[name], parts[0], parts[1])
    else:
        after[name] = shifted(rows[name], parts[0])
    return after


def _kept_after(kept, operation):
    """The new dict of the kept trains by names after an operation that is not refused."""
    word, name = operation[0], operation[1]
    after = dict(kept)
    if name in after and word == "go":
        after[name] = moved(after[name], dict(operation[2]))
    elif name in after and word != "shift":
        del after[name]
    return after


class Yard:
    """Rows by names, all that was done to them, and the trains that are known."""

    def __init__(self):
        self._rows = {}
        # The operations of each step and the rows after it; the first step is the
        # beginning. The dicts of rows are never changed, only replaced.
        self._steps = [((), self._rows)]
        self._done = 0
        self._kept = {}
        self._analyses = 0

    def _take_step(self, operations, rows, kept):
        self._steps = self._steps[:self._done + 1] + [(operations, rows)]
        self._done += 1
        self._rows = rows
        self._kept = kept

    def do(self, operation):
        """Do one operation."""
        rows = _rows_after(self._rows, operation)
        self._take_step((operation,), rows, _kept_after(self._kept, operation))

    def do_all(self, operations):
        """Do all these operations as one step, or none of them if one is refused."""
        if not isinstance(operations, (list, tuple)):
            raise At(0)
        rows, kept = self._rows, self._kept
        for k, operation in enumerate(operations):
            try:
                rows = _rows_after(rows, operation)
            except ScoopError:
                raise At(k) from None
            kept = _kept_after(kept, operation)
        if len(operations) > 0:
            self._take_step(tuple(operations), rows, kept)

    def _go_to(self, step):
        """Go to the end of this step, if it exists; whether it does."""
        if not 0 <= step < len(self._steps):
            return False
        self._done = step
        self._rows = self._steps[step][1]
        self._kept = {}
        return True

    def undo(self):
        """Undo the last step; False if there is none."""
        return self._go_to(self._done - 1)

    def redo(self):
        """Redo the last step that was undone; False if there is none."""
        return self._go_to(self._done + 1)

    def names(self):
        """The ascending list of the names."""
        return sorted(self._rows)

    def row(self, name):
        """The row of this name."""
        if not _is_name(name) or name not in self._rows:
            raise BadName(name)
        return self._rows[name]

    def trains_of(self, name):
        """The list of the trains of the row of this name."""
        row = self.row(name)
        if name not in self._kept:
            self._kept[name] = trains(row)
            self._analyses += 1
        return list(self._kept[name])

    def analyses(self):
        """How often trains were computed from a row so far."""
        return self._analyses

    def log(self):
        """The list of the operations in effect."""
        return [operation for operations, _ in self._steps[:self._done + 1] for operation in operations]

    def copy(self):
        """An independent yard that stands as this one does."""
        other = Yard()
        other._rows = self._rows
        other._steps = list(self._steps)
        other._done = self._done
        other._kept = dict(self._kept)
        other._analyses = self._analyses
        return other

    def __eq__(self, other):
        return isinstance(other, Yard) and self._rows == other._rows
