"""The examples of the document, as it writes them, and those of README.md."""

import doctest
import pathlib
import unittest

README = pathlib.Path(__file__).resolve().parent.parent / "README.md"

EXAMPLES = {
    "Part 1": """
>>> from scooprow.rows import Row
>>> row = Row([(3, 1), (0, 2)], [(0, 3)])
>>> (row.contents, row.capacity(0), row.held(1), row.total())
(((0, 2), (3, 1)), 3, 0, 3)
""",
    "Part 2": """
>>> from scooprow.rows import Row
>>> from scooprow.sweeps import sweep, trace
>>> sweep(Row([(0, 1), (1, 1), (3, 1)]), 9).contents
((2, 1), (4, 1), (5, 1))
>>> trace(Row([(0, 1), (1, 1)]), 1)
[(0, 0, 1, 1, 0), (1, 1, 1, 1, 1), (2, 1, 0, 0, 1)]
""",
    "Part 3": """
>>> from scooprow.exchanges import exchanged, plain_form
>>> from scooprow.rows import Row
>>> exchanged((3, 2), (1, 0))
((1, 1), (3, 1))
>>> plain_form(Row([(0, 2), (1, 1)], [(0, 3)])).contents
((-1, 1), (0, 1), (1, 1))
>>> plain_form(Row([(-1, 1), (0, 1)], [(0, 2)])).contents
((-2, 1), (-1, 1))
""",
    "Part 4": """
>>> from scooprow.rows import Row
>>> from scooprow.trains import row_of, trains
>>> trains(Row([(0, 1), (1, 1), (3, 1)]))
[(1, 1), (2, 0)]
>>> row_of([(2, 2), (1, 2)]).contents
((2, 1), (4, 1), (5, 1))
""",
    "Part 5, advance": """
>>> from scooprow.advance import advance, picked_in_all
>>> from scooprow.rows import Row
>>> row = Row([(0, 1), (1, 1), (3, 1)])
>>> advance(row, {9: 100}).contents
((101, 1), (202, 1), (203, 1))
>>> picked_in_all(row, {9: -1, 1: 2})
{1: 4, 9: -3}
""",
    "Part 5, times": """
>>> from scooprow.rows import Row
>>> from scooprow.times import given_up, seen
>>> row = Row([(0, 1), (1, 1)])
>>> (seen(row, 9, 4), seen(row, 1, 4), given_up(row, 1, 4))
([(2, 1)], [(3, 1), (4, 1)], 1)
""",
    "Part 6": """
>>> from scooprow.rows import Row
>>> from scooprow.walks import Walk
>>> walk = Walk(Row([(0, 1)]), [1, 2])
>>> (walk.step(0), walk.step(1), walk.swap(0))
((1, 0), (0, 0), None)
>>> (walk.at(0), walk.at(1), walk.ended().contents)
((1, 2, 1), (1, 1, 0), ((2, 1),))
""",
    "Part 7": """
>>> from scooprow.connecting import connect, least_number
>>> from scooprow.rows import Row
>>> one = Row([(0, 1), (5, 1)])
>>> (connect(one, Row([(0, 1), (1, 1)])), connect(one, Row([(1, 1), (7, 1)])))
(('length', 1), ('apart', 1, 1))
>>> (connect(Row([(3, 1)]), Row([(0, 1)]), backward=False), least_number(Row([(0, 1), (1, 1)]), Row([(5, 1), (6, 1)])))
(('falling', 0, 1), 3)
""",
    "Part 8": """
>>> from scooprow.carriers import is_bar, led_by, loops
>>> from scooprow.rows import Row
>>> one, other = Row([(0, 1), (1, 1)]), Row([(3, 1), (4, 1)])
>>> (led_by(one, other, [2])[0], is_bar(one, other, [2], ("barred", 2, ((2, 1),))), led_by(one, other, [1]))
('barred', True, ('sweeps', {1: 3}))
>>> len(loops(one, [1, 2, 5]))
2
""",
    "Part 9": """
>>> from scooprow.rows import Row
>>> from scooprow.watching import Watch
>>> watch = Watch(Row([(0, 1)]), [(1, 2), (3, 1)])
>>> (watch.look([(2, 0)]), watch.possible(), watch.sure(1, 0, 1), watch.probe())
(4, [(0, 0), (0, 1), (1, 0), (2, 1)], 'open', 1)
""",
    "Part 10": """
>>> from scooprow.rows import Row
>>> from scooprow.yards import Yard
>>> yard = Yard()
>>> yard.do(("put", "a", Row([(0, 1)])))
>>> (yard.trains_of("a"), yard.do(("go", "a", ((1, 4),))), yard.trains_of("a"), yard.analyses())
([(1, 0)], None, [(1, 4)], 1)
""",
    "Part 11": r"""
>>> from scooprow.rows import Row
>>> from scooprow.texts import counts_text, row_text
>>> (row_text(Row([(3, 1), (0, 2)], [(0, 3)])), counts_text({9: -1, 2: 3}))
('wide 0 3\nbox 0 2\nbox 3 1\n', '2 x 3, 9 x -1')
""",
    "Part 12": """
>>> from scooprow.console import Console
>>> console = Console()
>>> [console.answer(line) for line in ["put a 0:1,1:1", "go a 9 2", "row a", "trains a", "drop b"]]
['ok', 'ok', '4:1,5:1', '2:4', 'error BadName']
""",
}


class ExamplesTest(unittest.TestCase):
    def check(self, part, text, least):
        example = doctest.DocTestParser().get_doctest(text, {}, part, None, 0)
        told = []
        results = doctest.DocTestRunner(verbose=False).run(example, out=told.append)
        self.assertEqual((results.failed, "".join(told)), (0, ""))
        self.assertGreaterEqual(results.attempted, least)

    def test_examples(self):
        for part, text in EXAMPLES.items():
            with self.subTest(part):
                self.check(part, text, 3)

    def test_readme(self):
        self.check("README.md", README.read_text(encoding="ascii").replace("```", ""), 10)


if __name__ == "__main__":
    unittest.main()
