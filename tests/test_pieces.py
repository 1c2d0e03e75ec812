"""The pieces [41], [6]."""

import random
import unittest

from pupilpairs.errors import Open
from pupilpairs.moves import moved
from pupilpairs.pieces import are_pieces, early, is_told, pieces, put, told_by
from pupilpairs.scripts import Script
from pupilpairs.stretches import stretches
from tests.helpers import (
    FAR, OPEN, STRAIGHT, any_values, drawn_scripts, kinds_of_calls, model_script, model_stretches, raised,
)

DRAWN = drawn_scripts(6, 50)
UP = Script(2, [("up", 0, 1)])


def otherwise(piece):
    """Pieces, and what is nearly one, with one part that is not as in a piece."""
    things = [list(piece), piece + (0,), piece[:-1], (), None]
    for part in (1, 2):
        end, number = piece[part]
        other_end = "back" if end == "front" else "front"
        for bound in [(other_end, number), (end, number + 1), (end, -1), (end, number - 1), [end, number], (end,),
                      (end, number, 0), (end.title(), number), (end.encode(), number), (None, number), ([end], number),
                      (end, None), (end, str(number)), (end, bool(number)), (number, end), end, number, None, ()]:
            things.append(piece[:part] + (bound,) + piece[part + 1:])
    for part in (0, 3, 4, 5, 6):
        number = piece[part]
        others = [number + 1, number - 1, -number - 1, None, str(number), (number,), [number]]
        if number in (0, 1):
            others.append(bool(number))
        things.extend([piece[:part] + (other,) + piece[part + 1:] for other in others])
    return things


def cut_in_two(piece):
    """A piece that begins at a row from the front, as two: its first row, and all others."""
    file, (end, number), last, to, sign, shift, times = piece
    first = (file, (end, number), (end, number), to, 1, sign * number + shift - number, times)
    return [first, (file, (end, number + 1), last, to, sign, shift, times)]


class EarlyTest(unittest.TestCase):
    def test_early(self):
        for calls, rows in (([], 3), ([("up", 0, 1)], 7), ([("all", -4), ("wheel", 0, 1, 3), ("swap", 0, 1)], 35)):
            self.assertEqual([early(Script(2, calls)), early(Script(3, calls))], [rows, rows])

    def test_early_of_scripts_that_are_not_straight(self):
        for word in OPEN:
            self.assertEqual(early(Script(2, [(word,)])), 7)
            self.assertEqual(early(Script(3, [("all", -5), (word,), (word,)])), 31)
        self.assertEqual(early(Script(2, [("all", 10 ** 40 - 1)])), 4 * 10 ** 40 - 1)


class PiecesTest(unittest.TestCase):
    def test_on_each_line_from_early_on(self):
        for script in DRAWN:
            told = pieces(script)
            least = early(script)
            for rows in (*range(least, least + 9), 2 * least, 2 * least + 1, 400, *FAR):
                self.assertEqual(told_by(told, rows), stretches(script, rows), (script.calls(), rows))
                self.assertIs(is_told(script, rows, told), True)

    def test_by_the_words(self):
        for script in DRAWN:
            told = pieces(script)
            for rows in (early(script), early(script) + 1):
                leads = model_script(script.files, script.calls(), rows)
                self.assertEqual(told_by(told, rows), model_stretches(leads, script.files, rows))

    def test_each_kind_of_call(self):
        for files in (2, 3):
            for k in (1, -1, 2, -16):
                for call in kinds_of_calls(files, k):
                    if call[0] in STRAIGHT:
                        for calls in ([call], [call, ("about",)], [("front", 0, 1), call]):
                            script = Script(files, calls)
                            least = early(script)
                            for rows in (least, least + 1, least + 2, 3 * least, FAR[2]):
                                self.assertEqual(told_by(pieces(script), rows), stretches(script, rows), (call, rows))

    def test_small_scripts(self):
        for script in drawn_scripts(7, 300, many=4, size=5):
            least = early(script)
            for rows in (least, least + 1, least + 2, FAR[3]):
                self.assertEqual(told_by(pieces(script), rows), stretches(script, rows), script.calls())

    def test_the_form(self):
        for script in DRAWN:
            told = pieces(script)
            self.assertIs(type(told), list)
            for piece in told:
                self.assertEqual([type(part) for part in piece], [int, tuple, tuple, int, int, int, int])
                for bound in piece[1:3]:
                    self.assertIn(bound[0], ("front", "back"))
                    self.assertTrue(0 <= bound[1] < early(script))
                self.assertIn(piece[4], (1, -1))

    def test_no_calls(self):
        for files in (2, 3):
            self.assertEqual(pieces(Script(files, [])),
                             [(file, ("front", 0), ("back", 0), file, 1, 0, 0) for file in range(files)])

    def test_told_lists_are_new(self):
        pieces(UP).clear()
        told = pieces(UP)
        told_by(told, 9).clear()
        self.assertEqual([len(pieces(UP)), len(told), len(told_by(told, 9))], [3, 3, 3])

    def test_great_sizes_of_returned_scripts(self):
        script = Script(3, [("up", 2, 1), ("wheel", 0, 1, -1), ("front", 1, 2)]).times(13)
        for rows in (early(script), early(script) + 1, 500, FAR[0]):
            self.assertEqual(told_by(pieces(script), rows), stretches(script, rows))

    def test_open_ahead_of_all_else(self):
        for word in OPEN:
            for script in (Script(2, [(word,)]), Script(3, [("all", 1), (word,)]), Script(2, [(word,), ("about",)])):
                raised(self, Open, pieces, script)
                for thing in any_values() + [[], pieces(UP)]:
                    raised(self, Open, are_pieces, script, thing)
                    for rows in (1, 50, FAR[0]):
                        raised(self, Open, is_told, script, rows, thing)


class ToldByTest(unittest.TestCase):
    def test_on_short_lines(self):
        told = [(0, ("front", 1), ("back", 2), 1, -1, 5, 3), (1, ("back", 0), ("front", 4), 0, 1, -2, -1)]
        self.assertEqual(told_by(told, 1), [(0, 1, -2, 1, -1, 8), (1, 0, 4, 0, 1, -3)])
        self.assertEqual(told_by(told, 2), [(0, 1, -1, 1, -1, 11), (1, 1, 4, 0, 1, -4)])
        self.assertEqual(told_by(told, 10), [(0, 1, 7, 1, -1, 35), (1, 9, 4, 0, 1, -12)])
        self.assertEqual(told_by([], 5), [])
        kept = list(told)
        self.assertEqual(told_by(told[::-1], 2), told_by(told, 2)[::-1])
        self.assertEqual(told, kept)

    def test_one_for_each_on_short_lines(self):
        for script in DRAWN:
            told = pieces(script)
            for rows in (1, 2, 3, 10):
                line = told_by(told, rows)
                self.assertEqual(len(line), len(told))
                for piece, stretch in zip(told, line):
                    rows_of = [number if end == "front" else rows - 1 - number for end, number in piece[1:3]]
                    self.assertEqual(stretch, (piece[0], *rows_of, piece[3], piece[4], piece[5] + piece[6] * rows))

    def test_put_as_moved_leads(self):
        draw = random.Random(8)
        for script in DRAWN:
            told = pieces(script)
            for rows in (early(script), early(script) + 1, 300, *FAR):
                near = [0, 1, 2, 17, rows - 1, rows - 2, rows // 2] + [draw.randrange(rows) for _ in range(5)]
                for row in near:
                    for file in range(script.files):
                        if row < rows:
                            self.assertEqual(put(told, rows, (row, file)), moved(script, rows, (row, file)))

    def test_put_by_the_first_that_has_a_place(self):
        told = [(0, ("front", 1), ("front", 2), 1, 1, 5, 0), (0, ("front", 0), ("back", 0), 0, -1, -1, 1),
                (1, ("back", 1), ("back", 0), 1, 1, 0, 0)]
        self.assertEqual([put(told, 9, (row, 0)) for row in range(4)], [(8, 0), (6, 1), (7, 1), (5, 0)])
        self.assertEqual([put(told, 9, (row, 1)) for row in (0, 6, 7, 8)], [None, None, (7, 1), (8, 1)])
        self.assertEqual(put(told[::-1], 9, (1, 0)), (7, 0))
        self.assertIsNone(put([], 9, (1, 0)))
        self.assertIsNone(put(told, 10 ** 39, (10 ** 39 - 3, 1)))
        self.assertEqual(put(told, 10 ** 39, (10 ** 39 - 3, 0)), (2, 0))

    def test_put_on_short_lines(self):
        self.assertEqual(put(pieces(UP), 1, (0, 0)), (0, 0))
        self.assertEqual(put(pieces(UP), 2, (0, 0)), (1, 0))
        self.assertEqual(put([(0, ("front", 3), ("back", 0), 0, 1, 0, 0)], 3, (2, 0)), None)


class ArePiecesTest(unittest.TestCase):
    def test_the_told_list(self):
        for script in DRAWN:
            self.assertIs(are_pieces(script, pieces(script)), True)
            self.assertIs(are_pieces(script, [tuple(list(piece)) for piece in pieces(script)]), True)

    def test_one_part_otherwise(self):
        for script in [UP, Script(3, []), *drawn_scripts(11, 8, many=5)]:
            told = pieces(script)
            things = [tuple(told), told[:-1], told[1:], told + told[:1], told[::-1], []]
            for at, piece in enumerate(told):
                things.append(told[:at] + told[at + 1:])
                things.append(told[:at] + [piece] + told[at:])
                things.extend([told[:at] + [other] + told[at + 1:] for other in otherwise(piece)])
                if piece[1][0] == "front" and piece[1] != piece[2]:
                    things.append(told[:at] + cut_in_two(piece) + told[at + 1:])
            for thing in things:
                self.assertIs(are_pieces(script, thing), False, thing)
                self.assertIs(is_told(script, early(script) + 5, thing), False, thing)

    def test_pieces_that_are_the_same_on_one_line_only(self):
        told = pieces(UP)
        rows = 9
        for at in range(len(told)):
            file, first, last, to, sign, shift, times = told[at]
            for other in [(file, first, ("front", rows - 1), to, sign, shift, times) if last[0] == "back" else None,
                          (file, first, last, to, sign, shift + rows, times - 1),
                          (file, ("back", rows - 1 - first[1]), last, to, sign, shift, times)]:
                if other:
                    thing = told[:at] + [other] + told[at + 1:]
                    self.assertIs(are_pieces(UP, thing), False)
                    self.assertEqual([is_told(UP, many, thing) for many in (8, 9, 10)], [False, True, False])

    def test_any_value(self):
        for script in (Script(2, []), Script(3, [("all", 2), ("about",)])):
            for thing in any_values():
                self.assertIs(are_pieces(script, thing), False)
                self.assertIs(are_pieces(script, [thing] * len(pieces(script))), False)
                for rows in (1, 5, FAR[0]):
                    self.assertIs(is_told(script, rows, thing), False)
                    self.assertIs(is_told(script, rows, [thing] * len(stretches(script, rows))), False)

    def test_the_thing_is_not_changed(self):
        thing = pieces(UP) + [[1, {"x": []}]]
        are_pieces(UP, thing)
        is_told(UP, 9, thing)
        self.assertEqual(thing, pieces(UP) + [[1, {"x": []}]])


class IsToldTest(unittest.TestCase):
    def test_as_the_stretches_on_short_lines(self):
        for script in DRAWN + drawn_scripts(9, 60, many=3, size=3):
            told = pieces(script)
            for rows in range(1, early(script) + 3):
                self.assertIs(is_told(script, rows, told), told_by(told, rows) == stretches(script, rows), rows)

    def test_shorter_than_early(self):
        self.assertEqual([is_told(UP, rows, pieces(UP)) for rows in (1, 2, 3, 7)], [False, False, True, True])
        about = Script(2, [("about",)])
        self.assertEqual([is_told(about, rows, pieces(about)) for rows in (1, 2, 3)], [False, True, True])
        single = [(0, ("front", 0), ("back", 0), 1, 1, 0, 0), (1, ("front", 0), ("front", 0), 0, 1, -5, 5)]
        self.assertEqual([is_told(about, rows, single) for rows in (1, 2)], [True, False])

    def test_pieces_of_another_script(self):
        other = Script(2, [("up", 1, 1)])
        both = Script(2, [("up", 0, 2), ("up", 0, -1)])
        for rows in (5, 11, FAR[1]):
            self.assertIs(is_told(UP, rows, pieces(other)), False)
            self.assertIs(is_told(UP, rows, pieces(both)), True)
        self.assertIs(are_pieces(UP, pieces(both)), True)
        self.assertIs(is_told(UP, 3, pieces(Script(2, [("up", 0, 4)]))), False)

    def test_an_order_otherwise(self):
        told = pieces(UP)
        for rows in (4, 9, FAR[0]):
            self.assertIs(is_told(UP, rows, told), True)
            self.assertIs(is_told(UP, rows, told[::-1]), False)
            self.assertIs(is_told(UP, rows, [told[0], told[2], told[1]]), False)

    def test_far_behind_early(self):
        for script in DRAWN[:15]:
            told = pieces(script)
            for rows in FAR:
                self.assertIs(is_told(script, rows, told), True)
                self.assertIs(is_told(script, rows, told[:-1]), False)

    def test_the_examples(self):
        self.assertEqual(early(UP), 7)
        self.assertEqual(pieces(UP)[:2], [(0, ("front", 0), ("front", 0), 0, 1, -1, 1),
                                          (0, ("front", 1), ("back", 0), 0, 1, -1, 0)])
        self.assertEqual([pieces(Script(2, [("about",)]))[0], told_by(pieces(UP), 4) == stretches(UP, 4)],
                         [(0, ("front", 0), ("back", 0), 1, -1, -1, 1), True])


if __name__ == "__main__":
    unittest.main()
