"""Texts of rows and of counts, and back."""

from scooprow.advance import is_counts
from scooprow.errors import BadCounts, BadText
from scooprow.rows import Row, is_row_like
from scooprow.sweeps import is_capacity

MOST_DIGITS = 31
MOST_DIGITS_OF_NUMBERS = 4000


def integer_in(word, most_digits=MOST_DIGITS):
    """The integer that a word is, None if it is none of at most so many digits."""
    digits = word.removeprefix("-")
    if not 1 <= len(digits) <= most_digits or not all(["0" <= digit <= "9" for digit in digits]):
        return None
    if digits[0] == "0" and word != "0":
        return None
    return int(word)


def row_text(row):
    """The lines that tell of the wide boxes of a row and of its items."""
    lines = [f"wide {index} {capacity}\n" for index, capacity in row.capacities]
    return "".join(lines + [f"box {index} {count}\n" for index, count in row.contents])


def _pair_in(words):
    """The pair of integers that two words are, None if they are none."""
    first, second = [integer_in(word) for word in words]
    if first is None or second is None:
        return None
    return (first, second)


def _with_line(contents, capacities, line):
    """The pair (contents, capacities) with what a line tells, None if that is not possible."""
    words = line.split(" ")
    if len(words) != 3 or words[0] not in ("wide", "box"):
        return None
    pair = _pair_in(words[1:])
    # The wide boxes stand before all others.
    if pair is None or (words[0] == "wide" and contents):
        return None
    told = capacities if words[0] == "wide" else contents
    if told and pair[0] <= told[-1][0]:
        return None
    if words[0] == "wide":
        capacities = capacities + [pair]
    else:
        contents = contents + [pair]
    if not is_row_like(contents, capacities):
        return None
    return (contents, capacities)


def parse_row(text):
    """The row that a text tells."""
    if not isinstance(text, str):
        raise BadText(0)
    *lines, last = text.split("\n")
    so_far = ([], [])
    for k, line in enumerate(lines):
        so_far = _with_line(so_far[0], so_far[1], line)
        if so_far is None:
            raise BadText(k)
    # Behind the last line feed there is nothing.
    if last != "":
        raise BadText(len(lines))
    return Row(so_far[0], so_far[1])


def _first_too_great():
    """The least number that has too many digits for a text of counts."""
    bound = 1
    for _ in range(MOST_DIGITS_OF_NUMBERS // 50):
        bound *= 10 ** 50
    return bound


def counts_text(counts):
    """The text of counts."""
    if not is_counts(counts):
        raise BadCounts("the counts are not a dict from capacities to numbers of sweeps")
    bound = _first_too_great()
    if not all([-bound < many < bound for many in counts.values()]):
        raise BadCounts("a number of sweeps has more than 4000 digits")
    if not counts:
        return "-"
    return ", ".join([f"{capacity} x {counts[capacity]}" for capacity in sorted(counts)])


def _count_in(part):
    """The pair (capacity, number) that a part of a text of counts tells, None if it tells none."""
    words = part.split(" ")
    if len(words) != 3 or words[1] != "x":
        return None
    capacity = integer_in(words[0])
    many = integer_in(words[2], MOST_DIGITS_OF_NUMBERS)
    if not is_capacity(capacity) or many is None:
        return None
    return (capacity, many)


def parse_counts(text):
    """The counts that a text tells."""
    if not isinstance(text, str):
        raise BadText(0)
    counts = {}
    if text == "-":
        return counts
    last = 0
    for part in text.split(", "):
        pair = _count_in(part)
        if pair is None or pair[0] <= last:
            raise BadText(0)
        last = pair[0]
        counts[last] = pair[1]
    return counts
