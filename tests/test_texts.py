import random
import re
import unittest

from helper import FAR, any_values, far_rows, sample_rows
from scooprow.errors import BadCounts, BadText
from scooprow.rows import Row, is_row_like
from scooprow.texts import counts_text, parse_counts, parse_row, row_text
from test_advance import no_counts

INTEGER = r"(?:0|-?[1-9][0-9]{0,30})"
LINE = re.compile(f"(wide|box) ({INTEGER}) ({INTEGER})")
NUMBER = r"(?:0|-?[1-9][0-9]{0,3999})"
COUNTS = re.compile(f"[1-9][0-9]? x {NUMBER}(?:, [1-9][0-9]? x {NUMBER})*")
CHARACTERS = "0129- xwb\n+.:,A"


def slow_parse(text):
    """The row that a text tells, or the index of the first wrong line."""
    wide, boxes = [], []
    lines = text.split("\n")
    for k, line in enumerate(lines):
        if k == len(lines) - 1:
            break
        found = LINE.fullmatch(line)
        if not found:
            return k
        told = wide if found[1] == "wide" else boxes
        told.append((int(found[2]), int(found[3])))
        if (found[1] == "wide" and boxes) or not is_row_like(boxes, wide) or told != sorted(told):
            return k
    return len(lines) - 1 if lines[-1] else Row(boxes, wide)


def slow_parse_counts(text):
    """The counts that a text tells, None if it tells none."""
    if text == "-":
        return {}
    if not COUNTS.fullmatch(text):
        return None
    parts = [part.split(" x ") for part in text.split(", ")]
    capacities = [int(capacity) for capacity, _ in parts]
    if capacities != sorted(set(capacities)):
        return None
    return {int(capacity): int(many) for capacity, many in parts}


def parsed(action, text):
    """What the text tells, or the index of the error."""
    try:
        return action(text)
    except BadText as error:
        return error.k


def changed_texts(text):
    """Texts with one character put in, left out or exchanged."""
    for at in range(len(text) + 1):
        for character in CHARACTERS:
            yield text[:at] + character + text[at:]
            yield text[:at] + character + text[at + 1:]
        yield text[:at] + text[at + 1:]


def rows_to_tell():
    return sample_rows() + far_rows()[:-1] + [
        Row([(-60, 2), (60, 9)], [(-60, 2), (60, 9)]), Row((), [(index, 9) for index in range(6)]),
        Row([(FAR, 1), (-FAR, 1)]), Row([(10 ** 31 - 1, 1), (1 - 10 ** 31, 1)]),
        Row([(0, 9), (1, 9), (2, 9), (3, 9), (4, 4)], [(index, 9) for index in range(5)])]


class RowTextTest(unittest.TestCase):
    def test_small_rows(self):
        self.assertEqual(row_text(Row([(3, 1), (0, 2)], [(0, 3)])), "wide 0 3\nbox 0 2\nbox 3 1\n")
        self.assertEqual(row_text(row=Row([(-1, 1)], [(5, 9), (-3, 2)])), "wide -3 2\nwide 5 9\nbox -1 1\n")
        self.assertEqual((row_text(Row()), row_text(Row((), [(0, 2)]))), ("", "wide 0 2\n"))
        self.assertEqual(parse_row(text="wide 0 3\nbox 0 2\nbox 3 1\n"), Row([(3, 1), (0, 2)], [(0, 3)]))
        self.assertEqual(parse_row(""), Row())

    def test_there_and_back(self):
        for row in rows_to_tell():
            text = row_text(row)
            self.assertEqual(parse_row(text), row)
            lines = [f"wide {index} {capacity}\n" for index, capacity in row.capacities]
            lines += [f"box {index} {count}\n" for index, count in row.contents]
            self.assertEqual(text, "".join(lines))


class ParseRowTest(unittest.TestCase):
    def check(self, text):
        self.assertEqual(parsed(parse_row, text), slow_parse(text), text)

    def test_one_changed_character(self):
        for row in rows_to_tell()[:20:3] + rows_to_tell()[-5:]:
            for text in list(changed_texts(row_text(row)))[:3000]:
                self.check(text)

    def test_changed_lines(self):
        for row in rows_to_tell():
            lines = row_text(row).split("\n")[:-1]
            for k in range(len(lines)):
                for others in (lines[:k] + lines[k + 1:], lines[:k] + [lines[k]] + lines[k:],
                               lines[:k] + lines[k:k + 2][::-1] + lines[k + 2:], lines[:k] + [""] + lines[k:],
                               lines[:k] + ["box 1000 1"] + lines[k:], lines[:k] + ["wide 59 2"] + lines[k:]):
                    self.check("\n".join(others + [""]))
                    self.check("\n".join(others))

    def test_wrong_lines(self):
        for line in ("", " ", "box", "box 0", "box 0 1 ", " box 0 1", "box  0 1", "box 0  1", "box 0 1 1", "box 0 0",
                     "box 0 -1", "box 0 2", "box 00 1", "box 01 1", "box -0 1", "box +1 1", "box 0 01", "box 0 +1",
                     "box 1.0 1", "box one 1", "Box 0 1", "boxes 0 1", "box 0,1", "box\t0 1", "box 0 1\r", "wide 0 1",
                     "wide 0 10", "wide 61 2", "wide -61 2", "wide 0 -2", "wide 0 02", "wide -0 2", "wide 0", "wide",
                     "wide 0 2 2", "wide  0 2", "narrow 0 1", "# box 0 1", "box - 1", "box -- 1", "box --1 1",
                     "box 1_0 1", "box 0 " + "1" * 31, "box " + "1" * 32 + " 1", "box -" + "1" * 32 + " 1", "-"):
            for before in ([], ["wide -9 4"], ["wide -9 4", "wide -5 9"]):
                for after in ([], ["box 2000 1"]):
                    text = "".join(part + "\n" for part in before + [line] + after)
                    self.assertEqual(parsed(parse_row, text), len(before), text)
                    self.check(text)

    def test_31_and_32_digits(self):
        for digits in ("9" * 31, "-" + "9" * 31, "1" + "0" * 30, "-1" + "0" * 30):
            self.assertEqual(parse_row(f"box {digits} 1\n"), Row([(int(digits), 1)]))
            for more in (digits + "0", digits.replace("-", "") + "99", digits.replace("1", "01")):
                if len(more.replace("-", "")) > 31:
                    self.assertEqual(parsed(parse_row, f"box -70 1\nbox {more} 1\n"), 1)

    def test_the_last_line_is_ended(self):
        self.assertEqual(parsed(parse_row, "box 0 1"), 0)
        self.assertEqual(parsed(parse_row, "box 0 1\nbox 1 1"), 1)
        self.assertEqual(parsed(parse_row, "box 0 1\nbox 1 1\nb"), 2)
        self.assertEqual(parsed(parse_row, "box 0 1\nbox 0 1\nb"), 1)
        self.assertEqual((parsed(parse_row, "\n"), parsed(parse_row, "box 0 1\n\n")), (0, 1))

    def test_order(self):
        self.assertEqual(parsed(parse_row, "box 1 1\nwide 0 2\n"), 1)
        self.assertEqual(parsed(parse_row, "wide 1 2\nwide 0 2\n"), 1)
        self.assertEqual(parsed(parse_row, "wide 1 2\nwide 1 2\nbox 0 3\n"), 1)
        self.assertEqual(parsed(parse_row, "wide 1 2\nbox 3 1\nbox 2 1\nbox 1 1\n"), 2)
        self.assertEqual(parsed(parse_row, "box -1 1\nbox -2 1\n"), 1)
        self.assertEqual(parsed(parse_row, "box 9 1\nbox 10 1\n"), Row([(9, 1), (10, 1)]))

    def test_too_much(self):
        text = "".join(f"box {index} 1\n" for index in range(41))
        self.assertEqual(parsed(parse_row, text), 40)
        self.assertEqual(parsed(parse_row, text + "x"), 40)
        self.assertEqual(parse_row(text[:-len("box 40 1\n")]).total(), 40)
        text = "wide 0 9\n" + text.replace("box 0 1\n", "box 0 9\n")
        self.assertEqual(parsed(parse_row, text), 33)
        text = "".join(f"wide {index} 2\n" for index in range(7))
        self.assertEqual(parsed(parse_row, text + "box 0 3\n"), 6)
        self.assertEqual(parsed(parse_row, text[9:] + "box 0 1\nbox 1 2\nbox 2 3\n"), 8)

    def test_random_lines(self):
        source = random.Random(113)
        kinds = {}
        for _ in range(3000):
            wide = sorted(source.sample(range(-62, 63), source.randint(0, 3)))
            boxes = sorted(source.sample(wide + list(range(-9, 9)), source.randint(0, 5)))
            lines = [f"wide {index} {source.choice([2, 5, 9, 9, 9, source.randint(-1, 12)])}\n" for index in wide]
            lines += [f"box {index} {source.choice([1, 1, 2])}\n" for index in boxes]
            text = "".join(lines)
            self.check(text)
            kind = type(slow_parse(text))
            kinds[kind] = kinds.get(kind, 0) + 1
        self.assertGreater(min(kinds[Row], kinds[int]), 300)

    def test_no_strings(self):
        for value in any_values():
            if not isinstance(value, str):
                self.assertEqual(repr(parsed(parse_row, value)), "0")
            else:
                self.check(value)


class CountsTextTest(unittest.TestCase):
    GOOD = [{}, {1: 0}, {99: -1, 1: 5}, {9: FAR, 10: -FAR, 2: 3}, {5: 10 ** 3999}, {5: -10 ** 3999, 1: 10 ** 4000 - 1},
            {7: 1 - 10 ** 4000}, {capacity: capacity - 50 for capacity in range(99, 0, -1)}]

    def test_small_counts(self):
        self.assertEqual(counts_text({9: -1, 2: 3}), "2 x 3, 9 x -1")
        self.assertEqual((counts_text({}), counts_text(counts={1: 0, 10: 5, 2: -7})), ("-", "1 x 0, 2 x -7, 10 x 5"))
        self.assertEqual(parse_counts(text="2 x 3, 9 x -1"), {2: 3, 9: -1})
        self.assertEqual((parse_counts("-"), parse_counts("1 x 0")), ({}, {1: 0}))

    def test_there_and_back(self):
        for counts in self.GOOD:
            text = counts_text(counts)
            self.assertTrue(text == "-" or COUNTS.fullmatch(text))
            found = parse_counts(text)
            self.assertEqual(found, counts)
            self.assertEqual((list(found), type(found)), (sorted(counts), dict))

    def test_refused_counts(self):
        for value in no_counts():
            self.assertRaises(BadCounts, counts_text, value)
        for many in (10 ** 4000, -10 ** 4000, 10 ** 4299, 10 ** 5000):
            self.assertRaises(BadCounts, counts_text, {3: many})
            self.assertRaises(BadCounts, counts_text, {3: 1, 2: many})

    def test_one_changed_character(self):
        for text in ("-", "2 x 3, 9 x -1", "1 x 0", "10 x -20, 99 x 1000"):
            for changed in changed_texts(text):
                expected = slow_parse_counts(changed)
                self.assertEqual(parsed(parse_counts, changed), 0 if expected is None else expected, changed)

    def test_wrong_texts(self):
        for text in ("", " ", "--", "- ", "\n", "1", "1 x", "x 1", "1 x 1,", "1 x 1, ", ", 1 x 1", "1 x 1,2 x 1",
                     "1 x 1,  2 x 1", "2 x 1, 1 x 1", "1 x 1, 1 x 1", "1 x 1, 1 x 2", "0 x 1", "100 x 1", "-1 x 1",
                     "01 x 1", "1 x 01", "1 x -0", "1 x +1", "+1 x 1", "1  x 1", "1 x  1", "1 X 1", "1 x 1\n", "1x1",
                     "-, 1 x 1", "1 x 1, -", "1 x one", "1 x 1 x 1", "1 x --1", "1 x -", "1 x " + "9" * 4001,
                     "1 x -" + "9" * 4001, "1 x " + "9" * 5000, "9" * 5000 + " x 1"):
            self.assertEqual(parsed(parse_counts, text), 0, text[:50])
        for many in ("9" * 4000, "-" + "9" * 4000):
            self.assertEqual(len(str(parse_counts("1 x " + many)[1])), len(many))

    def test_no_strings(self):
        for value in any_values():
            if not isinstance(value, str) or slow_parse_counts(value) is None:
                self.assertEqual(repr(parsed(parse_counts, value)), "0")

    def test_counts_stay(self):
        counts = {9: 1, 2: -3}
        counts_text(counts)
        self.assertEqual(list(counts.items()), [(9, 1), (2, -3)])
        found = parse_counts("-")
        found[1] = 1
        self.assertEqual(parse_counts("-"), {})


if __name__ == "__main__":
    unittest.main()
