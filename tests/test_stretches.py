"""The stretches [40], [10]."""

import random
import unittest

from pupilpairs.errors import NoPlace, Open
from pupilpairs.moves import came_from, moved
from pupilpairs.scripts import Script
from pupilpairs.stretches import are_stretches, joined, led_by, stretch_at, stretches
from tests.helpers import (
    FAR, OPEN, STRAIGHT, any_values, drawn_script, drawn_scripts, kinds_of_calls, known_loops, model_script,
    model_stretches, raised,
)

DRAWN = drawn_scripts(40, 50)
LONG = Script(3, [("wheel", 0, 1, 4), ("wheel", 1, 2, 3), ("up", 0, 2), ("wheel", 0, 2, -4), ("up", 1, 1),
                  ("front", 0, 1)])
OPEN_SCRIPTS = [Script(files, [("all", 1)] * before + [(word,)] + [("about",)] * (2 - before))
                for word in OPEN for files in (2, 3) for before in (0, 2)]


def by_rows(script, rows):
    """The stretches of a script, found by going through the rows by the words of the document."""
    return model_stretches(model_script(script.files, script.calls(), rows), script.files, rows)


def by_moved(script, rows):
    """The same on a longer line, with the places told by `moved`, which has tests of its own."""
    leads = {(row, file): moved(script, rows, (row, file)) for row in range(rows) for file in range(script.files)}
    return model_stretches(leads, script.files, rows)


class StretchesTest(unittest.TestCase):
    def test_each_kind_of_call(self):
        for files in (2, 3):
            for k in (1, -1, 2, -3, 5, -16):
                for call in kinds_of_calls(files, k):
                    if call[0] in STRAIGHT:
                        for rows in range(1, 12):
                            script = Script(files, [call])
                            self.assertEqual(stretches(script, rows), by_rows(script, rows), (call, rows))

    def test_drawn_scripts_on_short_lines(self):
        for script in DRAWN:
            for rows in (*range(1, 9), 13, 20, 33):
                self.assertEqual(stretches(script, rows), by_rows(script, rows), (script.calls(), rows))

    def test_small_scripts_on_short_lines(self):
        for script in drawn_scripts(41, 400, many=3, size=4):
            for rows in (1, 2, 3, 4, 5):
                self.assertEqual(stretches(script, rows), by_rows(script, rows), (script.calls(), rows))

    def test_lines_of_hundreds_of_rows(self):
        for script in DRAWN[:20]:
            for rows in (66, 67, 200, 399, 400, 731):
                self.assertEqual(stretches(script, rows), by_moved(script, rows), (script.calls(), rows))

    def test_no_calls(self):
        for rows in (1, 2, 400, *FAR):
            self.assertEqual(stretches(Script(2, []), rows), [(0, 0, rows - 1, 0, 1, 0), (1, 0, rows - 1, 1, 1, 0)])

    def test_sign_is_1_where_first_is_last(self):
        self.assertEqual(stretches(Script(2, [("about",)]), 1), [(0, 0, 0, 1, 1, 0), (1, 0, 0, 0, 1, 0)])
        self.assertEqual(stretches(Script(2, [("about",)]), 2), [(0, 0, 1, 1, -1, 1), (1, 0, 1, 0, -1, 1)])
        self.assertEqual(stretches(Script(2, [("wheel", 0, 1, 1)]), 2),
                         [(0, 0, 0, 1, 1, 0), (0, 1, 1, 0, 1, -1), (1, 0, 0, 1, 1, 1), (1, 1, 1, 0, 1, 0)])
        for script in DRAWN:
            for rows in (1, 2, 3, 50, *FAR):
                for file, first, last, to, sign, shift in stretches(script, rows):
                    self.assertIn(sign, (1, -1))
                    if first == last:
                        self.assertEqual(sign, 1)

    def test_far_lines_at_drawn_rows_and_both_ends(self):
        draw = random.Random(7)
        for script in DRAWN:
            for rows in FAR:
                told = stretches(script, rows)
                drawn = [draw.randrange(rows) for _ in range(5)]
                for row in [*range(20), *range(rows - 20, rows), *drawn]:
                    for file in range(script.files):
                        having = [stretch for stretch in told if stretch[0] == file and stretch[1] <= row <= stretch[2]]
                        self.assertEqual(len(having), 1)
                        self.assertEqual(led_by(having[0], row), moved(script, rows, (row, file)))
                        if row in (0, rows - 1, *drawn):
                            self.assertEqual(stretch_at(script, rows, (row, file)), having[0])

    def test_far_lines_fill_the_files_and_are_greatest(self):
        for script in DRAWN:
            for rows in FAR:
                told = stretches(script, rows)
                self.assertEqual(told, sorted(told))
                ends = {file: -1 for file in range(script.files)}
                for file, first, last, to, sign, shift in told:
                    self.assertEqual(first, ends[file] + 1)
                    self.assertTrue(first <= last)
                    ends[file] = last
                self.assertEqual(set(ends.values()), {rows - 1})
                for one, other in zip(told, told[1:]):
                    if one[0] == other[0]:
                        self.assertFalse(self.goes_on(script, rows, one, other[1]))

    def goes_on(self, script, rows, stretch, row):
        """Whether a stretch could take in the row behind it."""
        row_led, to = moved(script, rows, (row, stretch[0]))
        if to != stretch[3]:
            return False
        signs = (1, -1) if stretch[1] == stretch[2] else (stretch[4],)
        last = moved(script, rows, (stretch[2], stretch[0]))[0]
        return row_led - last in signs

    def test_great_sizes_of_returned_scripts(self):
        script = Script(2, [("up", 0, 1), ("wheel", 0, 1, 1), ("front", 0, 1)]).times(13)
        self.assertEqual(script.size, 39)
        for rows in (1, 7, 40, 157):
            self.assertEqual(stretches(script, rows), by_moved(script, rows))

    def test_time(self):
        # About 5; it was 50 when each call was joined to those ahead of it.
        self.assertLess(known_loops(lambda: [stretches(LONG, 10 ** 29) for _ in range(100)]), 20)

    def test_told_lists_are_new(self):
        script = Script(2, [("up", 0, 1)])
        told = stretches(script, 4)
        told.pop()
        self.assertEqual(len(stretches(script, 4)), 3)
        self.assertEqual([type(item) for item in stretches(script, 4)], [tuple] * 3)


class AtTest(unittest.TestCase):
    def test_stretch_at_and_led_by(self):
        for script in DRAWN:
            for rows in (1, 2, 5, 30):
                told = stretches(script, rows)
                for row in range(rows):
                    for file in range(script.files):
                        stretch = stretch_at(script, rows, (row, file))
                        self.assertIn(stretch, told)
                        self.assertTrue(stretch[0] == file and stretch[1] <= row <= stretch[2])
                        self.assertEqual(led_by(stretch, row), moved(script, rows, (row, file)))

    def test_stretch_at_is_one_of_all(self):
        undone = [Script(2, [("up", 0, 3), ("up", 0, -3)]), Script(3, [("wheel", 0, 2, 2), ("front", 0, 2)]).times(2),
                  LONG * ~LONG, LONG]
        for script in undone + drawn_scripts(43, 60, many=6, size=8):
            for rows in (1, 2, 3, 4, 7, 19, 70, FAR[2]):
                for stretch in stretches(script, rows):
                    for row in sorted({stretch[1], (stretch[1] + stretch[2]) // 2, stretch[2]}):
                        told = stretch_at(script, rows, (row, stretch[0]))
                        self.assertEqual(told, stretch, (script.calls(), rows, row))

    def test_time(self):
        self.assertLess(known_loops(lambda: [stretch_at(LONG, 10 ** 29, (7 * n, 1)) for n in range(100)]), 20)

    def test_led_by(self):
        self.assertEqual(led_by((0, 0, 5, 2, 1, 7), 3), (10, 2))
        self.assertEqual(led_by((1, 2, 5, 0, -1, 7), 5), (2, 0))
        self.assertIs(type(led_by((1, 2, 5, 0, -1, 7), 5)), tuple)
        self.assertEqual(led_by((1, 2, 10 ** 39, 0, -1, 10 ** 39 + 2), 10 ** 39), (2, 0))

    def test_no_place(self):
        for script in (Script(2, [("up", 0, 1)]), Script(3, [])):
            for rows in (1, 4, FAR[0]):
                near = [(rows, 0), (0, script.files), (-1, 0), (0, -1), [0, 0], (True, 0), (0, False), (0, 0, 0), (0,),
                        0, rows]
                for thing in near + any_values():
                    self.assertIs(raised(self, NoPlace, stretch_at, script, rows, thing).place, thing)

    def test_open_ahead_of_all_else(self):
        for script in OPEN_SCRIPTS:
            for rows in (1, 5, FAR[0]):
                raised(self, Open, stretches, script, rows)
                for thing in any_values() + [(0, 0), (rows, 0), []]:
                    raised(self, Open, stretch_at, script, rows, thing)
                    raised(self, Open, are_stretches, script, rows, thing)


class JoinedTest(unittest.TestCase):
    def test_joined_is_that_of_the_product(self):
        draw = random.Random(4)
        for _ in range(120):
            files = draw.choice([2, 3])
            one, other = drawn_script(draw, files), drawn_script(draw, files)
            for rows in (1, 2, 3, 8, 70, draw.choice(FAR)):
                first, second = stretches(one, rows), stretches(other, rows)
                kept = [list(first), list(second)]
                both = one * other
                self.assertEqual(joined(first, second), stretches(both, rows), (both.calls(), rows))
                self.assertEqual([first, second], kept)

    def test_joined_by_rows(self):
        for one, other in zip(DRAWN, DRAWN[1:]):
            if one.files == other.files:
                for rows in (1, 2, 5, 12):
                    told = joined(stretches(one, rows), stretches(other, rows))
                    self.assertEqual(told, by_rows(one * other, rows))

    def test_turned_back(self):
        for script in DRAWN:
            for rows in (1, 2, 3, 9, 65, *FAR):
                nothing = stretches(Script(script.files, []), rows)
                self.assertEqual(joined(stretches(script, rows), stretches(~script, rows)), nothing)
                self.assertEqual(joined(stretches(~script, rows), stretches(script, rows)), nothing)
                self.assertEqual(stretches(script * ~script, rows), nothing)
                for place in ((0, 0), (rows - 1, 1), (rows // 2, script.files - 1)):
                    back = led_by(stretch_at(~script, rows, place), place[0])
                    self.assertEqual(back, came_from(script, rows, place))

    def test_rounds_of_k_and_then_l(self):
        for script in drawn_scripts(42, 20, many=4, size=4):
            for rows in (1, 3, 20, FAR[1]):
                for k, l in ((1, 2), (-2, 3), (4, 0), (-1, -1)):
                    told = joined(stretches(script.times(k), rows), stretches(script.times(l), rows))
                    self.assertEqual(told, stretches(script.times(k + l), rows))


class AreStretchesTest(unittest.TestCase):
    def test_the_told_list(self):
        for script in DRAWN:
            for rows in (1, 2, 6, 400):
                told = stretches(script, rows)
                self.assertIs(are_stretches(script, rows, told), True)
                self.assertIs(are_stretches(script, rows, by_moved(script, rows) if rows < 9 else list(told)), True)

    def test_one_part_otherwise(self):
        for script in DRAWN[:12]:
            for rows in (1, 2, 7):
                told = stretches(script, rows)
                for thing in self.otherwise(told):
                    self.assertIs(are_stretches(script, rows, thing), False, thing)

    def otherwise(self, told):
        """Lists that are nearly the told one."""
        things = [tuple(told), told[:-1], told[1:], told + told[-1:], told[:1] + told, told[::-1], told + [()],
                  told + [None], {}]
        for at, stretch in enumerate(told):
            things.append(told[:at] + [list(stretch)] + told[at + 1:])
            things.append(told[:at] + [stretch + (0,)] + told[at + 1:])
            things.append(told[:at] + [stretch[:-1]] + told[at + 1:])
            for part, number in enumerate(stretch):
                others = [number + 1, number - 1, -number - 1, None, str(number), (number,), [number]]
                if number in (0, 1):
                    others.append(bool(number))
                for other in others:
                    things.append(told[:at] + [stretch[:part] + (other,) + stretch[part + 1:]] + told[at + 1:])
            file, first, last, to, sign, shift = stretch
            if first < last:
                one = (file, first, first, to, 1, sign * first + shift - first)
                other = (file, first + 1, last, to, sign, shift)
                things.append(told[:at] + [one, other] + told[at + 1:])
            else:
                things.append(told[:at] + [(file, first, last, to, -1, shift + 2 * first)] + told[at + 1:])
        return things

    def test_of_another_script_or_line(self):
        up = Script(2, [("up", 0, 1)])
        self.assertIs(are_stretches(up, 4, stretches(up, 5)), False)
        self.assertIs(are_stretches(up, 4, stretches(Script(2, [("up", 1, 1)]), 4)), False)
        self.assertIs(are_stretches(up, 4, stretches(Script(2, [("up", 0, 5)]), 4)), True)

    def test_any_value(self):
        for script in (Script(2, []), Script(3, [("all", 2), ("about",)])):
            for rows in (1, 5, 400):
                for thing in any_values():
                    self.assertIs(are_stretches(script, rows, thing), False)
                    self.assertIs(are_stretches(script, rows, [thing] * len(stretches(script, rows))), False)

    def test_the_thing_is_not_changed(self):
        script = Script(2, [("up", 0, 1)])
        thing = [[0, 0, 0, 0, 1, 3], {"x": [1]}]
        are_stretches(script, 4, thing)
        self.assertEqual(thing, [[0, 0, 0, 0, 1, 3], {"x": [1]}])

    def test_the_examples(self):
        up = Script(2, [("up", 0, 1)])
        self.assertEqual([stretches(up, 4), stretch_at(up, 10 ** 30, (7, 0))],
                         [[(0, 0, 0, 0, 1, 3), (0, 1, 3, 0, 1, -1), (1, 0, 3, 1, 1, 0)],
                          (0, 1, 999999999999999999999999999999, 0, 1, -1)])


if __name__ == "__main__":
    unittest.main()
