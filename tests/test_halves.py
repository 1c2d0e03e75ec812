"""Where any number of rounds of one open call alone leads [80], [7], [10]."""

import random
import unittest

from pupilpairs.calls import moved_by
from pupilpairs.errors import NoPlace, NoRow
from pupilpairs.halves import halved, stepped
from pupilpairs.moves import moved
from pupilpairs.orders import halve_return, others_return
from pupilpairs.scripts import Script
from tests.helpers import FAR, all_places, any_values, model_call, near_places, raised

LONG = (*FAR, 10 ** 29, 10 ** 30 - 1, 7 * 10 ** 29 + 3)
ROUNDS = (0, 1, -1, 12, -12, 10 ** 39, -10 ** 39 - 7, 10 ** 40 - 1, 1 - 10 ** 40)


def step(rows, row):
    """The row to which "others" leads, by the words of the document."""
    if row % 2 == 0:
        return row // 2
    return (rows + 1) // 2 + row // 2


def drawn_rows(draw, rows):
    """Rows of a line at the ends and between them."""
    return sorted({row for row in (0, 1, 2, rows // 2, rows - 2, rows - 1, draw.randrange(rows)) if 0 <= row < rows})


class HalvedTest(unittest.TestCase):
    def test_short_lines(self):
        for files in (2, 3):
            for rows in range(1, 42):
                leads = model_call(("halve",), files, rows)
                back = model_call(("pair",), files, rows)
                for place in all_places(files, rows) if rows < 12 else [(row, 1) for row in range(rows)] + [(0, 0)]:
                    there = before = place
                    for rounds in range(13):
                        self.assertEqual(halved(files, rows, place, rounds), there, (files, rows, place, rounds))
                        self.assertEqual(halved(files, rows, place, -rounds), before, (files, rows, place, -rounds))
                        there, before = leads[there], back[before]

    def test_the_ends_stay(self):
        for files in (2, 3):
            for rows in (1, 2, 3, 4, 40, *LONG):
                for rounds in ROUNDS:
                    for place in ((0, 0), (rows - 1, files - 1)):
                        self.assertEqual(halved(files, rows, place, rounds), place)

    def test_one_row(self):
        for files in (2, 3):
            for file in range(files):
                for rounds in (*range(-3, 4), *ROUNDS):
                    self.assertEqual(halved(files, 1, (0, file), rounds), (0, file))

    def test_far_lines(self):
        draw = random.Random(800)
        for files in (2, 3):
            script = Script(files, [("halve",)])
            for rows in LONG:
                for row in drawn_rows(draw, rows):
                    place = (row, draw.randrange(files))
                    self.assertEqual(halved(files, rows, place, 1), moved_by(("halve",), files, rows, place))
                    self.assertEqual(halved(files, rows, place, -1), moved_by(("pair",), files, rows, place))
                    self.assertEqual(halved(files, rows, place, -3), moved(script.times(-3), rows, place))
                    self.assertEqual(halved(files, rows, place, 12), moved(script.times(12), rows, place))
                    for k in ROUNDS:
                        there = halved(files, rows, place, k)
                        self.assertEqual(halved(files, rows, there, -k), place)
                        for l in ROUNDS:
                            self.assertEqual(halved(files, rows, there, l), halved(files, rows, place, k + l))

    def test_the_return(self):
        for files in (2, 3):
            for rows in (1, 2, 5, 40, 399):
                order = halve_return(files, rows)[0]
                for place in ((0, 1), (rows // 2, 0), (rows - 1, files - 1)):
                    for rounds in (order, -order, order * 10 ** 36):
                        self.assertEqual(halved(files, rows, place, rounds), place)
                    self.assertEqual(halved(files, rows, place, order + 2), halved(files, rows, place, 2))

    def test_no_place(self):
        for files in (2, 3):
            for rows in (2, 7, FAR[0]):
                for thing in any_values() + near_places(files, rows):
                    for rounds in (0, 1, -10 ** 39):
                        self.assertIs(raised(self, NoPlace, halved, files, rows, thing, rounds).place, thing)


class SteppedTest(unittest.TestCase):
    def test_short_lines(self):
        for rows in range(1, 42):
            back = {step(rows, row): row for row in range(rows)}
            for row in range(rows):
                there = before = row
                for rounds in range(13):
                    self.assertEqual(stepped(rows, row, rounds), there, (rows, row, rounds))
                    self.assertEqual(stepped(rows, row, -rounds), before, (rows, row, -rounds))
                    there, before = step(rows, there), back[before]

    def test_one_and_two_rows(self):
        for rounds in (*range(-3, 4), *ROUNDS):
            self.assertEqual([stepped(1, 0, rounds), stepped(2, 0, rounds), stepped(2, 1, rounds)], [0, 0, 1])

    def test_far_lines(self):
        draw = random.Random(801)
        script = Script(2, [("others",)])
        for rows in LONG:
            for row in drawn_rows(draw, rows):
                self.assertEqual(stepped(rows, row, 1), moved_by(("others",), 2, rows, (row, 0))[0])
                self.assertEqual(stepped(rows, row, -1), moved_by(("fill",), 3, rows, (row, 2))[0])
                self.assertEqual(stepped(rows, row, 12), moved(script.times(12), rows, (row, 1))[0])
                self.assertEqual(stepped(rows, row, -5), moved(script.times(-5), rows, (row, 1))[0])
                for k in ROUNDS:
                    there = stepped(rows, row, k)
                    self.assertEqual(stepped(rows, there, -k), row)
                    for l in ROUNDS:
                        self.assertEqual(stepped(rows, there, l), stepped(rows, row, k + l))

    def test_the_ends(self):
        for rows in (1, 2, 3, 4, 5, 40, *LONG):
            for rounds in ROUNDS:
                self.assertEqual(stepped(rows, 0, rounds), 0)
                if rows % 2 == 0:
                    self.assertEqual(stepped(rows, rows - 1, rounds), rows - 1)

    def test_the_return(self):
        for rows in (1, 2, 7, 8, 40, 399):
            order = others_return(rows)[0]
            for row in (0, rows // 2, rows - 1):
                for rounds in (order, -order, order * 10 ** 36):
                    self.assertEqual(stepped(rows, row, rounds), row)

    def test_no_row(self):
        for rows in (1, 7, 8, FAR[0], FAR[1]):
            for thing in any_values() + [-1, rows, rows + 1, (0,), (0, 0), [0], "0", 10 ** 40, -10 ** 39]:
                for rounds in (0, 1, -10 ** 39):
                    self.assertIs(raised(self, NoRow, stepped, rows, thing, rounds).row, thing)

    def test_the_examples(self):
        self.assertEqual([halved(2, 3, (0, 1), 1), stepped(7, 3, 2)], [(1, 0), 6])


if __name__ == "__main__":
    unittest.main()
