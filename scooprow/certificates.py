"""Certificates: answers of connect with all that is needed to check them."""

from scooprow.advance import way
from scooprow.connecting import (
    connect, differ_in_number, distances, falling_pairs, offsets_of_both, steep_pairs,
    uneven_positions, unlikeness)
from scooprow.exchanges import plain_form
from scooprow.rows import ascends, is_integer, is_pair, is_same
from scooprow.sweeps import is_capacity
from scooprow.trains import cut


def _cuts(row):
    """The pairs (items, offsets) of the plain form of a row and of what each cut leaves."""
    found = []
    rest = plain_form(row)
    while rest.contents:
        items = rest.contents
        rest, offsets = cut(rest)
        found.append((items, tuple(offsets)))
    return tuple(found)


def certificate(row, other, *, backward=True):
    """The tuple (answer, cuts, other_cuts) for the question that connect answers."""
    answer = connect(row, other, backward=backward)
    if answer[0] == "sweeps":
        answer = ("sweeps", tuple(answer[1].items()))
    return (answer, _cuts(row), _cuts(other))


def _are_counts(value, backward):
    """Whether value is counts without zeros as an ascending tuple of pairs."""
    if not isinstance(value, tuple) or not all([is_pair(part) for part in value]):
        return False
    capacities = [capacity for capacity, _ in value]
    if not ascends(capacities) or not all([is_capacity(capacity) for capacity in capacities]):
        return False
    return all([many > 0 or (backward and many < 0) for _, many in value])


def _lead(counts, before, after):
    """Whether these counts move every train as required."""
    if unlikeness(before, after) is not None:
        return False
    far = distances(before, after)
    return all([way(length, counts) == far[length] for length in far])


def _are_adjacent(a, b, find_pairs, before, after):
    """Whether a and b are among the adjacent lengths that find_pairs finds."""
    if not is_integer(a) or not is_integer(b) or unlikeness(before, after) is not None:
        return False
    return (a, b) in find_pairs(distances(before, after))


def _is_true(answer, before, after, backward):
    """Whether answer is a true answer for trains with these offsets."""
    if not isinstance(answer, tuple):
        return False
    match answer:
        case ("sweeps", counts):
            return _are_counts(counts, backward) and _lead(dict(counts), before, after)
        case ("length", k):
            return is_integer(k) and differ_in_number(before, after, k)
        case ("apart", k, i):
            if not is_integer(k) or not is_integer(i) or differ_in_number(before, after, k):
                return False
            return i in uneven_positions(before, after, k)
        case ("steep", a, b):
            return not backward and _are_adjacent(a, b, steep_pairs, before, after)
        case ("falling", a, b):
            return not backward and _are_adjacent(a, b, falling_pairs, before, after)
        case _:
            return False


def is_certificate(row, other, value, *, backward=True):
    """Whether value is a certificate for these rows whose cuts are right and whose answer is true."""
    before, after = offsets_of_both(row, other)
    if not isinstance(value, tuple) or len(value) != 3:
        return False
    answer, cuts, other_cuts = value
    if not is_same(cuts, _cuts(row)) or not is_same(other_cuts, _cuts(other)):
        return False
    return _is_true(answer, before, after, backward)
