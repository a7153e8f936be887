"""What several tests use: values of any kind, rows to try, and slow sweeps, box by box."""

import random

from scooprow.advance import advance
from scooprow.errors import BadIndex, BadName
from scooprow.rows import Row
from scooprow.sweeps import sweep, unsweep
from scooprow.trains import row_of, trains

FAR = 10 ** 30


def is_integer(value):
    return type(value) is int


def nested(depth, wrap):
    value = 1
    for _ in range(depth):
        value = wrap(value)
    return value


def any_values():
    """New values of every kind that may be handed in."""
    return [
        None, True, False, 0, 1, -1, 2, 61, 100, 10 ** 3999, -10 ** 3999,
        "", "0", "contents", "a\nb", "(0, 1)",
        [], (), {}, [0], (0,), (1, 1), (0, 1), [0, 1], (0, 1, 2), (1, True), (True, 1), (2, False),
        ("1", 0), (1, "0"), (None, None), ((1, 0), (1, 0)),
        [(0, 1)], ((0, 1),), [[0, 1]], [(0, 1), (0, 1)], [(0, 1), 3], [(0, True)], [(False, 1)],
        [(0, [])], [([], 0)], [({}, {})], [(0, 2)], [(0, 2), (60, 9)], ((1, 2), (-60, 3)),
        [Row()], [(Row(), Row())], {0: 1}, {0: 2}, {(0, 1): 2}, {"a": [1, (2,), {}]},
        nested(20, lambda value: [value]), nested(20, lambda value: (value,)),
        nested(20, lambda value: {1: value}),
        Row(), Row([(0, 1)]), Row([(0, 2)], [(0, 3)]), BadIndex("index"), BadName("name"),
    ]


def no_integers():
    return [value for value in any_values() if not is_integer(value)]


def no_carrier_capacities():
    return [value for value in any_values() if not is_integer(value) or not 1 <= value <= 99]


def no_plain_rows():
    return [value for value in any_values() if not isinstance(value, Row) or value.capacities]


def changes(value):
    """Values that differ from this one in one part, at any depth: in its kind, worth or place."""
    if value in (0, 1) and is_integer(value):
        yield bool(value)
    if is_integer(value):
        yield from (value + 1, value - 1, value + FAR, str(value), None, (value,))
    elif isinstance(value, str):
        yield from (value + "s", value[:-1], value.upper(), 0, None, (value,))
    elif isinstance(value, Row):
        yield from (Row(value.contents[1:] if value.contents else [(0, 1)], value.capacities),
                    value.contents, None)
    elif isinstance(value, (tuple, list)):
        yield from changes_of_parts(value)


def changes_of_parts(value):
    kind = type(value)
    if kind is tuple:
        yield list(value)
    yield from (None, {}, value + kind([0]), value + kind([()]), kind([value]))
    for k, part in enumerate(value):
        yield value[:k] + value[k + 1:]
        yield value[:k] + kind([part]) + value[k:]
        yield value[:k] + value[k:k + 2][::-1] + value[k + 2:]
        for other in changes(part):
            yield value[:k] + kind([other]) + value[k + 1:]


def random_row(source, wide_boxes, spread):
    """A row with at most 12 items near the middle and so many wide boxes."""
    places = source.sample(range(-spread, spread + 1), wide_boxes)
    capacities = [(place, source.randint(2, 9)) for place in places]
    wide = dict(capacities)
    contents = []
    for place in source.sample(range(-spread - 3, spread + 4), source.randint(0, spread + 3)):
        count = source.randint(0, wide.get(place, 1))
        if count and len(contents) < 12 and sum(part[1] for part in contents) + count <= 40:
            contents.append((place, count))
    return Row(contents, capacities)


def sample_rows():
    """Many rows of every kind, always the same ones."""
    source = random.Random(20)
    rows = [
        Row(), Row((), [(0, 2), (1, 9)]), Row([(0, 1)]), Row([(-1, 1), (0, 1), (1, 1), (5, 1)]),
        Row([(index, 1) for index in range(40)]),
        Row([(index, 1) for index in range(0, 80, 2)]),
        Row([(-60, 2), (60, 9)], [(-60, 2), (60, 9)]),
        Row([(0, 5), (1, 5), (2, 5)], [(0, 5), (1, 5), (2, 5)]),
        Row([(0, 9), (1, 1), (2, 3)], [(0, 9), (1, 2), (2, 3), (3, 9), (4, 4), (5, 2)]),
    ]
    for wide_boxes in (0, 0, 1, 1, 2, 3, 6):
        for spread in (4, 7, 10):
            rows.extend(random_row(source, wide_boxes, spread) for _ in range(4))
    return rows


def far_rows():
    """Rows with items and wide boxes too far apart to go through the boxes between."""
    return [
        Row([(-FAR, 1), (-FAR + 1, 1), (FAR, 1)]),
        Row([(-FAR, 1), (0, 3), (1, 1), (FAR - 1, 1), (FAR, 1)], [(0, 4), (1, 2)]),
        Row([(-FAR, 1), (-FAR + 2, 1), (-60, 2), (60, 9)], [(-60, 2), (60, 9)]),
        Row([(FAR, 1)], [(-60, 9), (60, 9)]),
        Row([(-FAR, 1)], [(-60, 9), (0, 2), (60, 9)]),
        Row([(10 ** 3999, 1), (-10 ** 3999, 1)], [(3, 3)]),
    ]


def slow_steps(row, capacity):
    """All steps of a sweep over all boxes from far in front to far behind; no far rows."""
    indexes = [index for index, _ in row.contents + row.capacities] + [0]
    steps = []
    load = 0
    for index in range(min(indexes) - 2, max(indexes) + 50):
        count = row.held(index)
        up = min(capacity - load, count)
        down = min(load, row.capacity(index) - count)
        steps.append((index, load, count, load + up - down, count - up + down))
        load = load + up - down
    assert load == 0
    return steps


def slow_sweep(row, capacity):
    steps = slow_steps(row, capacity)
    return Row([(step[0], step[4]) for step in steps if step[4]], row.capacities)


def with_offsets(row, moved):
    """The row whose trains have the offsets moved(position among all, length, offset)."""
    found = [(length, moved(k, length, offset)) for k, (length, offset) in enumerate(trains(row))]
    return row_of(found, row.capacities)


def pairs_of_rows(source, rows):
    """For each row some others with the same capacities: led to by sweeps, or otherwise alike, or not."""
    for row in rows:
        most = source.choice((1, 3, FAR))
        counts = {capacity: source.randint(-most, most) for capacity in (1, 2, 3, 5, 8, 40)}
        positive = {capacity: abs(many) for capacity, many in counts.items()}
        by_length = {length: source.randint(-most, most) for length in range(1, 41)}
        yield row, row
        yield row, advance(row, counts)
        yield row, advance(row, positive)
        yield row, with_offsets(row, lambda k, length, offset: offset + by_length[length])
        yield row, with_offsets(row, lambda k, length, offset: offset + by_length[length] + (k % 3 == 2))
        yield row, Row(row.contents[:-1], row.capacities)


def swept(row, capacity, many):
    """The row after so many sweeps, one by one, inverse ones if many is negative."""
    for _ in range(abs(many)):
        row = sweep(row, capacity) if many > 0 else unsweep(row, capacity)
    return row


def is_sorted_row(row):
    """Whether a plain row is sorted, by the definition."""
    full = [index for index, _ in row.contents]
    firsts = [index for index in full if index - 1 not in full]
    lasts = [index for index in full if index + 1 not in full]
    lengths = [last - first + 1 for first, last in zip(firsts, lasts)]
    gaps = [first - last - 1 for first, last in zip(firsts[1:], lasts)]
    return lengths == sorted(lengths) and all(gap >= length for gap, length in zip(gaps, lengths))
