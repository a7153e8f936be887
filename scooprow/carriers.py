"""Sweeps by carriers of given capacities only: counts, or a modulus that bars them.

Counts lead from one row to another if they solve linear equations in
integers, one equation for each length of trains. A column belongs to a
capacity: how far one of its sweeps moves the trains of each length (its
image), and behind that the counts that do so, at first a single sweep. By
subtracting multiples of columns from others the images become a staircase;
the columns always stand for counts with these images.
"""

from scooprow.connecting import distances, offsets_of_both, unlikeness
from scooprow.errors import BadSet
from scooprow.rows import ascends, is_integer, is_pair
from scooprow.sweeps import is_capacity
from scooprow.trains import lengths

MOST_IN_SET = 8


def _check_set(value):
    if not isinstance(value, (list, tuple)) or not 1 <= len(value) <= MOST_IN_SET:
        raise BadSet("the set is not a list of 1 to 8 capacities")
    if not all([is_capacity(part) for part in value]) or not ascends(value):
        raise BadSet("the capacities of the set are not from 1 to 99, or do not ascend")


def _first_columns(capacities, every_length):
    """For each capacity the column of a single sweep."""
    return [[min(capacity, length) for length in every_length]
            + [1 if other == capacity else 0 for other in capacities]
            for capacity in capacities]


def _less(column, times, other):
    """The column less so many times the other."""
    return [part - times * other_part for part, other_part in zip(column, other)]


def _split_at(columns, place):
    """(pivots, others): columns as good as these, of which at most one is not 0 at place."""
    others = [column for column in columns if column[place] == 0]
    pivots = [column for column in columns if column[place] != 0]
    while len(pivots) > 1:
        pivots = sorted(pivots, key=lambda column: abs(column[place]))
        least = pivots[0]
        reduced = [_less(column, column[place] // least[place], least) for column in pivots[1:]]
        others.extend([column for column in reduced if column[place] == 0])
        pivots = [least] + [column for column in reduced if column[place] != 0]
    return (pivots, others)


def _staircase(columns, height):
    """(pivots, loose): the dict from places to the columns whose images begin there, and the rest.

    The images have this height. Those of the loose columns are 0 throughout.
    """
    found = {}
    loose = columns
    for place in range(height):
        pivots, loose = _split_at(loose, place)
        if pivots:
            found[place] = pivots[0]
    return (found, loose)


def _counts_in(parts, capacities):
    """The counts without zeros that these parts of a column are."""
    return {capacity: many for capacity, many in zip(capacities, parts) if many != 0}


def _weights_at(pivots, place):
    """The dict from places to weights that bring out what is left at place.

    The weights of the places of earlier pivots are such that the weighted sum
    of the column of each earlier pivot is 0; all other places weigh nothing.
    """
    before = [earlier for earlier in pivots if earlier < place]
    own = 1
    for earlier in before:
        own *= pivots[earlier][earlier]
    weights = {place: own}
    for earlier in reversed(before):
        column = pivots[earlier]
        total = sum([column[at] * weights[at] for at in weights])
        # It divides: the own weight has all the denominators (Cramer's rule).
        weights[earlier] = -total // column[earlier]
    return weights


def _bar(pivots, place, left):
    """The pair (q, weights) for the first place at which what is left cannot be made 0."""
    weights = _weights_at(pivots, place)
    if place in pivots:
        # What is left is no multiple of the pivot, and other columns are 0 up to here.
        return (abs(weights[place] * pivots[place][place]), weights)
    # The weighted sum is 0 for every capacity, but not for what is left.
    return (2 * abs(weights[place] * left), weights)


def led_by(row, other, capacities):
    """Counts for these capacities that lead from row to other, or what bars them."""
    _check_set(capacities)
    before, after = offsets_of_both(row, other)
    found = unlikeness(before, after)
    if found is not None:
        return found
    every_length = list(before)
    height = len(every_length)
    pivots, _ = _staircase(_first_columns(capacities, every_length), height)
    far = distances(before, after)
    left = [far[length] for length in every_length] + [0] * len(capacities)
    for place in range(height):
        if place in pivots and left[place] % pivots[place][place] == 0:
            left = _less(left, left[place] // pivots[place][place], pivots[place])
        elif left[place] != 0:
            modulus, weights = _bar(pivots, place, left[place])
            return ("barred", modulus, tuple([(length, weights.get(at, 0))
                                              for at, length in enumerate(every_length)]))
    return ("sweeps", _counts_in([-many for many in left[height:]], capacities))


def _are_weights(value, every_length):
    """Whether value is a tuple of pairs, one for each length, ascending."""
    if not isinstance(value, tuple) or not all([is_pair(part) for part in value]):
        return False
    return [length for length, _ in value] == every_length


def _is_multiple(weights, amounts, modulus):
    """Whether the weighted sum of these amounts, one for each length, is a multiple."""
    return sum([weight * amounts[length] for length, weight in weights]) % modulus == 0


def is_bar(row, other, capacities, value):
    """Whether value is a tuple ("barred", q, weights) that bars these capacities."""
    _check_set(capacities)
    before, after = offsets_of_both(row, other)
    if unlikeness(before, after) is not None or not isinstance(value, tuple) or len(value) != 3:
        return False
    word, modulus, weights = value
    if word != "barred" or not is_integer(modulus) or modulus < 2:
        return False
    if not _are_weights(weights, list(before)):
        return False
    for capacity in capacities:
        if not _is_multiple(weights, {length: min(capacity, length) for length in before}, modulus):
            return False
    return not _is_multiple(weights, distances(before, after), modulus)


def loops(row, capacities):
    """The list of counts that lead row to itself and of which all such counts are made in one way."""
    _check_set(capacities)
    every_length = sorted(set(lengths(row)))
    _, loose = _staircase(_first_columns(capacities, every_length), len(every_length))
    return [_counts_in(column[len(every_length):], capacities) for column in loose]
