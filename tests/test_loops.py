"""The loops of a line [62], [7], [8]."""

import math
import random
import unittest

from pupilpairs.corners import behind
from pupilpairs.errors import NoPlace, NoPupil, Open
from pupilpairs.lanes import turn_of
from pupilpairs.loops import leads, loop_length, loops, never_lead, returns
from pupilpairs.moves import moved, place_of
from pupilpairs.rests import families, period
from pupilpairs.scripts import Script
from tests.helpers import (
    FAR, all_places, any_values, drawn_scripts, model_loops, model_moves, near_places, near_pupils, open_scripts,
    raised,
)

DRAWN = drawn_scripts(620, 50, many=6, size=8) + [
    Script(2, []), Script(3, [("about",)]), Script(2, [("front", 0, 1)]), Script(2, [("up", 0, 8)]),
    Script(3, [("about",), ("swap", 0, 1), ("up", 0, 1)]), Script(3, [("about",), ("swap", 0, 1)]),
    Script(3, [("swap", 0, 1), ("swap", 1, 2), ("up", 1, 2)]), Script(2, [("wheel", 0, 1, 1), ("front", 0, 1)]),
    Script(3, [("up", 0, 1), ("front", 0, 1), ("up", 0, -1), ("front", 1, 2)]),
    # Scripts that turn rows about near an end, where the first or the last of them stays.
    Script(2, [("swap", 0, 1), ("up", 0, 1), ("wheel", 0, 1, 2)]),
    Script(3, [("wheel", 1, 2, 1), ("swap", 0, 2), ("wheel", 0, 2, -2)]),
    Script(3, [("wheel", 2, 1, -3), ("front", 0, 2), ("swap", 2, 1)]),
    Script(3, [("wheel", 0, 2, 3), ("wheel", 1, 0, 2), ("about",)]),
]
SHORT = (1, 2, 3, 4, 7, 12)


def lengths_of(told):
    """The dict from the lengths of loops to how many have it, of the lists of loops of the model."""
    lengths = [len(loop) for loop in told]
    return {length: lengths.count(length) // length for length in sorted(set(lengths))}


def rounds_to_front(script, loop):
    """The least number of rounds that lead along a loop to the front row, or None."""
    found = [rounds for rounds, number in enumerate(loop) if number < script.files]
    return found[0] if found else None


class ShortLinesTest(unittest.TestCase):
    def check(self, script, rows, moves, step):
        """Asserts all that is told of a line, of every so many of its pupils."""
        told = model_loops(moves)
        lengths = loops(script, rows)
        self.assertEqual(list(lengths.items()), list(lengths_of(told).items()), (script.calls(), rows))
        self.assertEqual(returns(script, rows), math.lcm(*lengths))
        for number in range(0, len(moves), step):
            place = place_of(script.files, number)
            self.assertEqual(loop_length(script, rows, place), len(told[number]))
            self.assertEqual(leads(script, rows, number), rounds_to_front(script, told[number]))
        still = [number for number, loop in enumerate(told) if rounds_to_front(script, loop) is None]
        self.assertEqual(never_lead(script, rows), still)

    def test_place_by_place(self):
        for script in DRAWN:
            for rows in SHORT:
                self.check(script, rows, model_moves(script, rows), 1)

    def test_lines_of_hundreds_of_rows(self):
        for script in DRAWN[::3]:
            for rows in (50, 133, 400):
                moves = [row * script.files + file for row, file in
                         [moved(script, rows, place) for place in all_places(script.files, rows)]]
                self.check(script, rows, moves, 1 + rows // 6)

    def test_lines_about_where_ends_come_near_one_another(self):
        for script in DRAWN:
            for rows in (401, 402, 405):
                moves = [row * script.files + file for row, file in
                         [moved(script, rows, place) for place in all_places(script.files, rows)]]
                lengths = loops(script, rows)
                self.assertEqual(list(lengths.items()), list(lengths_of(model_loops(moves)).items()))


class FarLinesTest(unittest.TestCase):
    def test_loop_length_by_behind(self):
        draw = random.Random(621)
        for script in DRAWN:
            for rows in FAR:
                for row in (0, rows - 1, rows // 2, draw.randrange(30)):
                    place = (row, draw.randrange(script.files))
                    length = loop_length(script, rows, place)
                    self.assertEqual(behind(script, rows, place, length), place)
                    for prime in (2, 3, 5, 7, 11, 13, length):
                        if length % prime == 0 and prime > 1:
                            self.assertNotEqual(behind(script, rows, place, length // prime), place)

    def test_loops_by_families(self):
        for script in DRAWN:
            step = period(script)
            if step <= 2000:
                for rows in (*FAR[:2], 401 + step, 10 ** 30 + 77):
                    first, told = families(script, rows % step, step)
                    steps = (rows - first) // step
                    expected = {}
                    for length, longer, many, more in told:
                        length = length + longer * steps
                        expected[length] = expected.get(length, 0) + many + more * steps
                    expected = {length: expected[length] for length in sorted(expected) if expected[length] != 0}
                    lengths = loops(script, rows)
                    self.assertEqual(list(lengths.items()), list(expected.items()))
                    self.assertEqual(returns(script, rows), math.lcm(*expected))
                    self.assertEqual(sum(length * many for length, many in lengths.items()), script.files * rows)

    def test_returns(self):
        for script in DRAWN:
            for rows in FAR[:2]:
                rounds = returns(script, rows)
                for row in (0, 1, 9, rows // 3, rows - 2, rows - 1):
                    for file in range(script.files):
                        self.assertEqual(behind(script, rows, (row, file), rounds), (row, file))
                self.assertEqual(returns(~script, rows), rounds)
                self.assertEqual(loops(~script, rows), loops(script, rows))
        self.assertEqual(returns(Script(2, []), 10 ** 39), 1)
        self.assertEqual(loops(Script(2, []), 10 ** 39), {1: 2 * 10 ** 39})
        self.assertEqual(loops(Script(3, [("about",)]), 10 ** 39 + 1), {1: 1, 2: (3 * 10 ** 39 + 2) // 2})
        self.assertEqual(loops(Script(3, [("up", 1, 6)]), 10 ** 39), {1: 2 * 10 ** 39, 5 * 10 ** 38: 2})

    def test_leads(self):
        draw = random.Random(622)
        for script in DRAWN:
            for rows in FAR:
                for row in (0, 1, 3, rows - 1, rows // 2, draw.randrange(rows)):
                    pupil = row * script.files + draw.randrange(script.files)
                    place = place_of(script.files, pupil)
                    told = leads(script, rows, pupil)
                    if told is not None:
                        self.assertEqual(behind(script, rows, place, told)[0], 0)
                        for rounds in {0, 1, 2, told - 1, told - turn_of(script), told // 2, told // 3}:
                            if 0 <= rounds < told:
                                self.assertNotEqual(behind(script, rows, place, rounds)[0], 0)
                    else:
                        self.assertNotIn(place, [(0, file) for file in range(script.files)])
                        length = loop_length(script, rows, place)
                        for rounds in range(30):
                            self.assertNotEqual(behind(script, rows, place, length * rounds // 30)[0], 0)

    def test_known_leads(self):
        up = Script(2, [("up", 0, 2)])
        for rows in (10 ** 39, 10 ** 30 + 2):
            self.assertEqual(leads(up, rows, 0), 0)
            self.assertEqual(leads(up, rows, 2 * (rows - 2)), rows // 2 - 1)
            self.assertIsNone(leads(up, rows, 2))
            self.assertIsNone(leads(up, rows, 3))
            self.assertEqual(leads(up, rows + 1, 2), rows // 2 + 1)
            self.assertEqual(leads(up, rows + 1, 2 * rows), rows // 2)


class ErrorsTest(unittest.TestCase):
    def test_no_place_and_no_pupil(self):
        script = Script(3, [("all", 1), ("front", 0, 1)])
        for rows in (1, 4, FAR[0]):
            for thing in any_values() + near_places(3, rows):
                self.assertIs(raised(self, NoPlace, loop_length, script, rows, thing).place, thing)
            for thing in any_values() + near_pupils(3, rows)[:-1] + [10 ** 41]:
                self.assertIs(raised(self, NoPupil, leads, script, rows, thing).pupil, thing)

    def test_open_ahead_of_all_else(self):
        for script in open_scripts():
            for rows in (1, 4, FAR[0]):
                raised(self, Open, loops, script, rows)
                raised(self, Open, returns, script, rows)
                raised(self, Open, never_lead, script, min(rows, 400))
                for thing in any_values() + [(0, 0), 0]:
                    raised(self, Open, loop_length, script, rows, thing)
                    raised(self, Open, leads, script, rows, thing)

    def test_told_dicts_and_lists_are_new(self):
        script = Script(2, [("front", 0, 1)])
        for rows in (2, FAR[0]):
            before = loops(script, rows)
            loops(script, rows).clear()
            self.assertEqual(loops(script, rows), before)
        never_lead(script, 2).clear()
        self.assertEqual(never_lead(script, 2), [2, 3])

    def test_the_examples(self):
        go = Script(2, [("up", 0, 1), ("wheel", 0, 1, 1)])
        self.assertEqual([loops(go, 5), returns(go, 5), loop_length(go, 5, (0, 0)), leads(go, 5, 9),
                          never_lead(Script(2, [("front", 0, 1)]), 2)], [{10: 1}, 10, 10, 3, [2, 3]])
        self.assertEqual(returns(Script(3, [("up", 2, 1)]), 10 ** 30), 1000000000000000000000000000000)


if __name__ == "__main__":
    unittest.main()
