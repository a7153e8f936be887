import random
import re
import unittest

from helper import FAR, any_values
from scooprow.connecting import connect, fewest
from scooprow.console import Console
from scooprow.errors import ScoopError
from scooprow.rows import Row
from scooprow.texts import counts_text
from scooprow.yards import Yard

INTEGER = r"(0|-?[1-9][0-9]{0,30})"
WORD = r"([^ ]+)"
PAIR = INTEGER.replace("(", "(?:") + ":" + INTEGER.replace("(", "(?:")
PAIRS = f"(-|{PAIR}(?:,{PAIR})*)"
FORMS = {
    "put": [f"{WORD} {PAIRS}", f"{WORD} {PAIRS} {PAIRS}"], "drop": [WORD], "row": [WORD], "trains": [WORD],
    "add": [f"{WORD} {INTEGER} {INTEGER}"], "shift": [f"{WORD} {INTEGER}"], "go": [f"{WORD} {INTEGER} {INTEGER}"],
    "connect": [f"{WORD} {WORD}"], "fewest": [f"{WORD} {WORD}"], "undo": [""], "redo": [""], "names": [""],
}


def pairs_in(text):
    if text == "-":
        return []
    return [tuple(map(int, part.split(":"))) for part in text.split(",")]


def told_pairs(pairs):
    return ",".join(f"{first}:{second}" for first, second in pairs) or "-"


def told_connection(answer):
    if answer[0] == "sweeps":
        return "sweeps " + counts_text(answer[1])
    return " ".join(map(str, answer))


def done(yard, word, parts):
    """What the yard beside the console tells, errors not yet caught."""
    if word == "put":
        yard.do(("put", parts[0], Row(*map(pairs_in, parts[1:]))))
    elif word == "go":
        yard.do(("go", parts[0], ((int(parts[1]), int(parts[2])),)))
    elif word in ("drop", "add", "shift"):
        yard.do((word, parts[0], *map(int, parts[1:])))
    elif word in ("undo", "redo"):
        return "ok" if getattr(yard, word)() else "nothing"
    elif word == "names":
        return " ".join(yard.names()) or "-"
    elif word == "row":
        return told_pairs(yard.row(parts[0]).contents)
    elif word == "trains":
        return told_pairs(yard.trains_of(parts[0]))
    else:
        action = {"connect": connect, "fewest": fewest}[word]
        return told_connection(action(yard.row(parts[0]), yard.row(parts[1])))
    return "ok"


def slow_answer(yard, line):
    """The answer by the table and a yard beside the console."""
    if not isinstance(line, str):
        return "unknown"
    for word, forms in FORMS.items():
        for form in forms:
            found = re.fullmatch(f"{word} {form}" if form else word, line)
            if found:
                try:
                    return done(yard, word, found.groups())
                except ScoopError as error:
                    return "error " + type(error).__name__
    return "unknown"


def random_line(source):
    name = source.choice(["a", "b", "c", "B", "toolongname"] + ["a", "b", "c"] * 3)
    other = source.choice(["a", "b", "c", "d"])
    small, count = source.choice([-1, 0, 1, 2, 5]), source.choice([-1, 0, 1, 1, 1, 2])
    items = source.choice(["-", "0:1", "0:1,1:1", "5:2,0:1", "5:1,4:1,1:1", "0:1,1:1,4:1,5:1", f"{FAR}:1,-3:1"])
    wide = source.choice(["5:3", "5:2,-60:9", "-", "5:10", "0:2,0:3"])
    word = source.choice(["put", "put", "wide", "drop", "add", "add", "shift", "go", "go", "go", "undo", "redo",
                          "names", "row", "trains", "connect", "fewest", "connect", "fewest"])
    return {
        "put": f"put {name} {items}", "wide": f"put {name} {items} {wide}", "drop": f"drop {name}",
        "add": f"add {name} {small} {count}", "shift": f"shift {name} {source.choice([5, 4, -60, 0])}",
        "go": f"go {name} {source.choice([0, 1, 2, 9, 99, 100])} {source.choice([small, FAR])}",
        "row": f"row {name}", "trains": f"trains {name}",
        "connect": f"connect {name} {other}", "fewest": f"fewest {name} {other}"}.get(word, word)


def spoiled(source, line):
    """The line with one word or character more, less or other."""
    words = line.split(" ")
    at = source.randint(0, len(words))
    place = source.randint(0, len(line))
    character = source.choice(" 0-+:,x\n")
    return source.choice([
        " ".join(words[:at] + [source.choice(["", "1", "a", "-"])] + words[at:]), " ".join(words[:at] + words[at + 1:]),
        line[:place] + character + line[place:], line[:place] + line[place + 1:], line.upper()])


class ConsoleTest(unittest.TestCase):
    def answers(self, *lines):
        console = Console()
        return [console.answer(line) for line in lines]

    def test_every_line_of_the_table(self):
        lines = [
            ("names", "-"), ("put b 0:1,1:1", "ok"), ("put a -", "ok"), ("put c 3:1,0:2 0:3", "ok"),
            ("put d 0:1,1:1 -", "ok"), ("names", "a b c d"), ("row a", "-"), ("row b", "0:1,1:1"),
            ("row c", "0:2,3:1"), ("trains a", "-"), ("trains b", "2:0"), ("trains c", "1:1,2:-1"),
            ("go b 9 2", "ok"), ("row b", "4:1,5:1"), ("trains b", "2:4"), ("connect d b", "sweeps 2 x 2"),
            ("connect b d", "sweeps 2 x -2"), ("fewest d b", "sweeps 2 x 2"), ("fewest b d", "falling 0 2"),
            ("connect d d", "sweeps -"), ("connect a b", "length 2"), ("connect b c", "error BadRow"),
            ("add a 7 1", "ok"), ("add a 12 1", "ok"), ("row a", "7:1,12:1"), ("put e 7:1,13:1", "ok"),
            ("connect a e", "apart 1 1"), ("fewest a e", "apart 1 1"), ("add a 7 -1", "ok"), ("row a", "12:1"),
            ("shift c 0", "ok"), ("row c", "-1:1,0:1,3:1"), ("drop e", "ok"), ("undo", "ok"), ("names", "a b c d e"),
            ("redo", "ok"), ("redo", "nothing"), ("names", "a b c d"), ("drop b", "ok"), ("row b", "error BadName")]
        for (line, expected), answer in zip(lines, self.answers(*[line for line, _ in lines])):
            self.assertEqual(answer, expected, line)
        self.assertEqual(self.answers("undo", "redo"), ["nothing", "nothing"])

    def test_answers_by_name(self):
        console = Console()
        self.assertEqual(console.answer(line="names"), "-")
        self.assertIs(type(console.answer("names")), str)

    def test_beside_a_yard(self):
        source = random.Random(120)
        seen = {}
        for _ in range(150):
            console, yard = Console(), Yard()
            for _ in range(80):
                line = random_line(source)
                if source.random() < 0.15:
                    line = spoiled(source, line)
                expected = slow_answer(yard, line)
                self.assertEqual(console.answer(line), expected, line)
                word = expected if expected.startswith("error") else expected.split(" ")[0]
                seen[word] = seen.get(word, 0) + 1
        self.assertLessEqual({"ok", "nothing", "unknown", "sweeps", "length", "apart", "steep", "falling", "-",
                              "error BadName", "error BadRow", "error BadCounts", "error BadIndex",
                              "error BadNumber"}, set(seen))

    def test_errors(self):
        lines = [
            ("put a 0:2", "error BadRow"), ("put a 0:1,0:1", "error BadRow"), ("put a 0:0", "error BadRow"),
            ("put a - 0:1", "error BadRow"), ("put a - 61:2", "error BadRow"), ("put A 0:1", "error BadName"),
            ("put A 0:2", "error BadRow"), ("put abcdefghi -", "error BadName"), ("put a\nb -", "error BadName"),
            ("put \n -", "error BadName"), ("drop \n", "error BadName"), ("row a\n", "error BadName"),
            ("drop a", "error BadName"), ("go a 1 1", "error BadName"), ("add a 1 0", "error BadName"),
            ("shift a 5", "error BadName"), ("trains a", "error BadName"), ("connect a b", "error BadName"),
            ("put a 0:1", "ok"), ("put a 0:2", "error BadRow"), ("put a 0:1", "error BadName"),
            ("connect a b", "error BadName"), ("fewest b a", "error BadName"), ("fewest a a", "sweeps -"),
            ("go a 0 1", "error BadCounts"), ("go a 100 1", "error BadCounts"), ("go a -1 1", "error BadCounts"),
            ("add a 5 0", "error BadNumber"), ("add a 0 1", "error BadRow"), ("add a 0 -2", "error BadRow"),
            ("add a 1 41", "error BadRow"), ("shift a 0", "error BadIndex"), ("shift a 99", "error BadIndex"),
            ("put w 0:1 0:3", "ok"), ("connect a w", "error BadRow"), ("fewest w a", "error BadRow"),
            ("connect w b", "error BadName"), ("connect b w", "error BadName")]
        for (line, expected), answer in zip(lines, self.answers(*[line for line, _ in lines])):
            self.assertEqual(answer, expected, line)

    def test_a_thirteenth_row(self):
        console = Console()
        for letter in "abcdefghijkl":
            self.assertEqual(console.answer(f"put {letter} -"), "ok")
        self.assertEqual((console.answer("put m 0:2"), console.answer("put m -")), ("error BadRow", "error BadName"))
        self.assertEqual(console.answer("names"), "a b c d e f g h i j k l")

    def test_other_lines(self):
        console = Console()
        console.answer("put a 0:1"), console.answer("put b 0:1")
        for line in ("", " ", "\n", "put", "put a", "put c 0:1 - -", "drop", "drop a b", "add a 1", "add a 1 1 1",
                     "shift a", "shift a 1 1", "go a 1", "go a 1 1 1", "go a", "undo a", "redo a", "undo undo",
                     "names a", "row", "row a b", "trains", "trains a b", "connect", "connect a", "connect a b b",
                     "fewest a", "fewest a b b", "Names", "NAMES", "names ", " names", "names\n", "undo ", " undo",
                     "row  a", "row a ", " row a", "put  c -", "put c  -", "put c - ", "put c -  -", "drop  a",
                     "add a  1 1", "add a 01 1", "add a 1 01", "add a +1 1", "add a 1 +1", "add a -0 1", "add a 1 -0",
                     "add a 1 1.0", "add a one 1", "add a 1 1\n", "add a " + "1" * 32 + " 1", "add a 1 " + "1" * 32,
                     "shift a 00", "shift a -0", "shift a a", "shift a " + "5" * 32, "go a 01 1", "go a 1 -0",
                     "go a 1 x", "go a x 1", "go a 1 " + "9" * 32, "put c", "put c 0", "put c 0:", "put c :1",
                     "put c 0:1,", "put c ,0:1", "put c 0:1,,1:1", "put c 0:1;1:1", "put c 0:1:1", "put c 00:1",
                     "put c 0:01", "put c -0:1", "put c 0:1, 1:1", "put c 0:1 0", "put c 0:1 --", "put c --",
                     "put c 0:1 0:3,", "put c " + "1" * 32 + ":1", "put c 0:" + "1" * 32, "put c 0:+1", "look a",
                     "log", "copy", "do", "put c (0, 1)", "put c -,-", "put c -,0:1"):
            self.assertEqual(console.answer(line), "unknown", line)
        self.assertEqual((console.answer("names"), console.answer("row a")), ("a b", "0:1"))

    def test_31_digits(self):
        nines = "9" * 31
        self.assertEqual(
            self.answers(f"put a {nines}:1,-{nines}:1", "row a", f"go a {nines} 1", f"go a 1 {nines}",
                         f"add a 5 {nines}", f"add a 7 -{nines}", "trains a", f"shift a {nines}"),
            ["ok", f"-{nines}:1,{nines}:1", "error BadCounts", "ok", "error BadRow", "error BadRow",
             f"1:0,1:{2 * int(nines) - 2}", "error BadIndex"])

    def test_no_strings(self):
        console = Console()
        for value in any_values():
            if not isinstance(value, str):
                self.assertEqual(console.answer(value), "unknown")
        for value in (["names"], ("names",), [["names"]], {"names": 1}):
            self.assertEqual(console.answer(value), "unknown")
        self.assertEqual(console.answer("names"), "-")

    def test_refused_and_unknown_lines_change_nothing(self):
        console = Console()
        for line in ("put a 0:1", "put b 0:1", "add b 5 1", "undo"):
            console.answer(line)
        for line in ("put a 0:1", "put b 0:2", "drop c", "add a 0 5", "go a 100 1", "shift a 0", "undo 1", "drop", "",
                     "put c 0:1:1", "connect a c", "row c", "add a 5 0"):
            self.assertIn(console.answer(line).split(" ")[0], ("error", "unknown"))
        self.assertEqual([console.answer(line) for line in ("redo", "row b", "redo", "undo", "undo", "names", "redo")],
                         ["ok", "0:1,5:1", "nothing", "ok", "ok", "a", "ok"])

    def test_each_console_has_its_own_yard(self):
        one, other = Console(), Console()
        one.answer("put a 0:1")
        self.assertEqual((one.answer("names"), other.answer("names")), ("a", "-"))


if __name__ == "__main__":
    unittest.main()
