"""The moves [30], [10]."""

import unittest

from pupilpairs.calls import moved_by
from pupilpairs.errors import NoPlace
from pupilpairs.moves import came_from, is_place, moved, number_of, passed, place_of
from pupilpairs.scripts import Script
from tests.helpers import (
    FAR, OPEN, STRAIGHT, all_places, any_values, drawn_scripts, kinds_of_calls, model_script, raised,
)

ALL_WORDS = STRAIGHT + OPEN
DRAWN = drawn_scripts(30, 60, ALL_WORDS)


def near_places(files, rows):
    """Values that are nearly places of a line, and are none."""
    return [(rows, 0), (rows + 1, 0), (0, files), (rows - 1, files), (-1, 0), (0, -1), (-rows, -files), (0, 0, 0),
            (0,), (), [0, 0], [rows - 1, 0], (True, 0), (0, True), (False, False), (0, False), (None, 0), (0, None),
            ("0", 0), (0, "0"), ((0, 0),), ((0, 0), 0), ([0], 0), (0, [0]), "00", b"\x00\x00", {0: 0}, {0, 1},
            0, 1, -1, rows]


class PlacesTest(unittest.TestCase):
    def test_places(self):
        for files in (2, 3):
            for rows in (1, 2, 5):
                places = all_places(files, rows)
                for row in range(-2, rows + 3):
                    for file in range(-2, files + 3):
                        self.assertIs(is_place(files, rows, (row, file)), (row, file) in places)
            for rows in FAR:
                for place in [(0, 0), (rows - 1, files - 1), (rows // 2, 1)]:
                    self.assertIs(is_place(files, rows, place), True)

    def test_nearly_places(self):
        for files in (2, 3):
            for rows in (1, 2, 400, *FAR):
                for thing in near_places(files, rows) + any_values():
                    self.assertIs(is_place(files, rows, thing), False, repr(thing)[:50])

    def test_numbers(self):
        for files in (2, 3):
            for number, place in enumerate(all_places(files, 7)):
                self.assertEqual(number_of(files, place), number)
                self.assertEqual(place_of(files, number), place)
            for row in (*FAR, 10 ** 38):
                for file in range(files):
                    self.assertEqual(number_of(files, (row, file)), row * files + file)
                    self.assertEqual(place_of(files, row * files + file), (row, file))
            self.assertIs(type(place_of(files, 5)), tuple)


class MovedTest(unittest.TestCase):
    def check(self, script, rows):
        leads = model_script(script.files, script.calls(), rows)
        for place in leads:
            self.assertEqual(moved(script, rows, place), leads[place], (script.calls(), rows, place))
            self.assertEqual(came_from(script, rows, leads[place]), place, (script.calls(), rows, place))

    def test_each_kind(self):
        for files in (2, 3):
            for call in kinds_of_calls(files, 3):
                for rows in (1, 2, 3, 6):
                    self.check(Script(files, [call]), rows)
                    self.check(Script(files, [("up", 1, 2), call, ("front", 0, 1)]), rows)

    def test_drawn_scripts_on_short_lines(self):
        for script in DRAWN:
            for rows in (1, 2, 3, 4, 7, 12):
                self.check(script, rows)

    def test_no_calls(self):
        for rows in (1, 5, *FAR):
            self.assertEqual(moved(Script(2, []), rows, (0, 1)), (0, 1))
            self.assertEqual(came_from(Script(2, []), rows, (rows - 1, 1)), (rows - 1, 1))
            self.assertEqual(passed(Script(2, []), rows, (0, 1)), [(0, 1)])

    def test_passed_goes_call_by_call(self):
        for script in DRAWN:
            for rows in (1, 4, 9, *FAR):
                for place in [(0, 0), (rows - 1, 1), (rows // 2, script.files - 1)]:
                    places = [place]
                    for call in script.calls():
                        places.append(moved_by(call, script.files, rows, places[-1]))
                    self.assertEqual(passed(script, rows, place), places)
                    self.assertEqual(moved(script, rows, place), places[-1])
                    self.assertEqual(came_from(script, rows, places[-1]), place)

    def test_passed_on_short_lines_by_the_words(self):
        for script in DRAWN[:20]:
            for many in range(len(script) + 1):
                leads = model_script(script.files, script.calls()[:many], 5)
                for place in leads:
                    self.assertEqual(passed(script, 5, place)[many], leads[place])

    def test_turned_back(self):
        for script in DRAWN:
            for rows in (1, 2, 7, 64, *FAR):
                for place in [(0, 0), (0, 1), (rows - 1, 0), (rows // 3, script.files - 1)]:
                    self.assertEqual(moved(script * ~script, rows, place), place)
                    self.assertEqual(moved(~script, rows, moved(script, rows, place)), place)
                    self.assertEqual(moved(script, rows, moved(~script, rows, place)), place)
                    self.assertEqual(came_from(~script, rows, place), moved(script, rows, place))
                    self.assertEqual(came_from(script, rows, place), moved(~script, rows, place))

    def test_far_lines_by_hand(self):
        script = Script(3, [("all", 3), ("wheel", 0, 2, 5), ("about",), ("up", 1, -4), ("front", 0, 1)])
        for rows in FAR:
            last = rows - 1
            self.assertEqual(passed(script, rows, (3, 0)),
                             [(3, 0), (0, 0), (4, 2), (last - 4, 0), (last - 4, 0), (last - 4, 0)])
            self.assertEqual(passed(script, rows, (2, 1)), [(2, 1), (last, 1), (last, 1), (0, 1), (4, 1), (4, 1)])
            self.assertEqual(passed(script, rows, (last, 2)),
                             [(last, 2), (last - 3, 2), (last - 1, 0), (1, 2), (1, 2), (1, 2)])
            self.assertEqual(came_from(script, rows, (0, 1)), (last - 2, 2))

    def test_calls_of_any_size(self):
        script = Script(2, [("all", 10 ** 40 - 1), ("up", 1, -10 ** 39), ("wheel", 1, 0, 10 ** 40)])
        for rows in (1, 2, 7, FAR[1]):
            place = (rows - 1, 1)
            row = (rows - 1 - (10 ** 40 - 1) + 10 ** 39) % rows
            seat = (rows - 1 - row + 10 ** 40) % (2 * rows)
            self.assertEqual(moved(script, rows, place), (rows - 1 - seat, 1) if seat < rows else (seat - rows, 0))

    def test_no_place(self):
        for files, script in ((2, Script(2, [("all", 1)])), (3, Script(3, [])), (2, Script(2, [("halve",)]))):
            for rows in (1, 4, FAR[0]):
                for thing in near_places(files, rows) + any_values():
                    for function in (moved, came_from, passed):
                        self.assertIs(raised(self, NoPlace, function, script, rows, thing).place, thing)

    def test_nothing_is_changed(self):
        script = Script(2, [("all", 1), ("halve",)])
        passed(script, 5, (0, 0)).append(7)
        self.assertEqual(passed(script, 5, (0, 0)), [(0, 0), (4, 0), (3, 1)])
        self.assertEqual(script.calls(), [("all", 1), ("halve",)])

    def test_the_examples(self):
        script = Script(2, [("all", 1), ("swap", 0, 1)])
        self.assertEqual([moved(script, 10 ** 30, (0, 1)), came_from(script, 5, (4, 0)), number_of(3, (2, 1))],
                         [(999999999999999999999999999999, 0), (0, 1), 7])


if __name__ == "__main__":
    unittest.main()
