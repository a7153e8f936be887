"""The examples of the document, as it writes them."""

import doctest
import unittest

EXAMPLES = {
    "Part 1": """
>>> from scooprow.rows import Row
>>> row = Row([(3, 1), (0, 2)], [(0, 3)])
>>> (row.contents, row.capacity(0), row.held(1), row.total())
(((0, 2), (3, 1)), 3, 0, 3)
""",
    "Part 2": """
>>> from scooprow.rows import Row
>>> from scooprow.sweeps import sweep, trace
>>> sweep(Row([(0, 1), (1, 1), (3, 1)]), 9).contents
((2, 1), (4, 1), (5, 1))
>>> trace(Row([(0, 1), (1, 1)]), 1)
[(0, 0, 1, 1, 0), (1, 1, 1, 1, 1), (2, 1, 0, 0, 1)]
""",
    "Part 3": """
>>> from scooprow.exchanges import exchanged, plain_form
>>> from scooprow.rows import Row
>>> exchanged((3, 2), (1, 0))
((1, 1), (3, 1))
>>> plain_form(Row([(0, 2), (1, 1)], [(0, 3)])).contents
((-1, 1), (0, 1), (1, 1))
>>> plain_form(Row([(-1, 1), (0, 1)], [(0, 2)])).contents
((-2, 1), (-1, 1))
""",
    "Part 4": """
>>> from scooprow.rows import Row
>>> from scooprow.trains import row_of, trains
>>> trains(Row([(0, 1), (1, 1), (3, 1)]))
[(1, 1), (2, 0)]
>>> row_of([(2, 2), (1, 2)]).contents
((2, 1), (4, 1), (5, 1))
""",
    "Part 5, advance": """
>>> from scooprow.advance import advance, picked_in_all
>>> from scooprow.rows import Row
>>> row = Row([(0, 1), (1, 1), (3, 1)])
>>> advance(row, {9: 100}).contents
((101, 1), (202, 1), (203, 1))
>>> picked_in_all(row, {9: -1, 1: 2})
{1: 4, 9: -3}
""",
    "Part 5, times": """
>>> from scooprow.rows import Row
>>> from scooprow.times import given_up, seen
>>> row = Row([(0, 1), (1, 1)])
>>> (seen(row, 9, 4), seen(row, 1, 4), given_up(row, 1, 4))
([(2, 1)], [(3, 1), (4, 1)], 1)
""",
    "Part 6": """
>>> from scooprow.rows import Row
>>> from scooprow.walks import Walk
>>> walk = Walk(Row([(0, 1)]), [1, 2])
>>> (walk.step(0), walk.step(1), walk.swap(0))
((1, 0), (0, 0), None)
>>> (walk.at(0), walk.at(1), walk.ended().contents)
((1, 2, 1), (1, 1, 0), ((2, 1),))
""",
}


class ExamplesTest(unittest.TestCase):
    def test_examples(self):
        for part, text in EXAMPLES.items():
            with self.subTest(part):
                example = doctest.DocTestParser().get_doctest(text, {}, part, None, 0)
                told = []
                results = doctest.DocTestRunner(verbose=False).run(example, out=told.append)
                self.assertEqual((results.failed, "".join(told)), (0, ""))
                self.assertGreater(results.attempted, 2)


if __name__ == "__main__":
    unittest.main()
