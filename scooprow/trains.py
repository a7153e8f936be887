"""Trains: what a row is made of, found by cuts and put together again."""

from scooprow.errors import BadRow, BadTrains
from scooprow.exchanges import plain_form, with_capacities
from scooprow.rows import MOST_ITEMS, Row, is_pair, is_plain_row


def runs_in(row):
    """The pairs (first index, length) of the runs of a plain row, ascending."""
    found = []
    for index, _ in row.contents:
        if found and sum(found[-1]) == index:
            found[-1] = (found[-1][0], found[-1][1] + 1)
        else:
            found.append((index, 1))
    return found


def cut(row):
    """The pair (row, offsets) after a cut of a plain row, the offsets ascending."""
    if not is_plain_row(row):
        raise BadRow("plain")
    kept = []
    offsets = []
    for first, length in runs_in(row):
        # One pair of boxes is removed for each run on the left.
        start = first - 2 * len(offsets)
        kept.extend([(start + place, 1) for place in range(length - 1)])
        offsets.append(start + length - 1)
    return (Row(kept), offsets)


def _behind_runs(row):
    """The index behind each run of a plain row."""
    return [first + length for first, length in runs_in(row)]


def trains(row):
    """The list of the trains (length, offset) of a row, ascending."""
    found = []
    rest = plain_form(row)
    length = 1
    while rest.contents:
        rest, offsets = cut(rest)
        for index in _behind_runs(rest):
            offsets.remove(index)
        found.extend([(length, offset) for offset in offsets])
        length += 1
    return found


def lengths(row):
    """The list of the lengths of the trains of a row, descending."""
    return sorted([length for length, _ in trains(row)], reverse=True)


def _are_trains(value):
    if not isinstance(value, (list, tuple)):
        return False
    if not all([is_pair(part) for part in value]):
        return False
    if not all([length >= 1 for length, _ in value]):
        return False
    return sum([length for length, _ in value]) <= MOST_ITEMS


def _uncut(row, offsets):
    """The plain row whose cut gives this row and these offsets."""
    added = [(offset + 2 * before, 1) for before, offset in enumerate(sorted(offsets))]
    moved = [(index + 2 * len([offset for offset in offsets if offset <= index]), 1)
             for index, _ in row.contents]
    return Row(moved + added)


def row_of(trains, capacities=()):
    """The row with these trains and these capacities."""
    if not _are_trains(trains):
        raise BadTrains("the trains are not a list of pairs (length, offset)")
    row = Row()
    for level in range(max([length for length, _ in trains], default=0), 0, -1):
        begun = [offset for length, offset in trains if length == level]
        row = _uncut(row, _behind_runs(row) + begun)
    return with_capacities(row, capacities)
