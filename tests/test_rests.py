"""How loops go on from line to line [61], [8]."""

import math
import unittest

from pupilpairs.corners import behind
from pupilpairs.errors import NoStep, Open
from pupilpairs.lanes import strides, turn_of
from pupilpairs.lines import moves_of
from pupilpairs.rests import families, from_rows, period, power_of
from pupilpairs.scripts import Script
from tests.helpers import FAR, drawn_scripts, model_loops, model_moves, open_scripts, raised

DRAWN = drawn_scripts(610, 60, many=6, size=8) + drawn_scripts(611, 30, many=3, size=3) + [
    Script(2, []), Script(3, []), Script(2, [("front", 0, 1)]), Script(3, [("about",)]), Script(2, [("up", 0, 8)]),
    Script(3, [("about",), ("swap", 0, 1), ("up", 0, 1)]), Script(3, [("swap", 0, 1), ("swap", 1, 2), ("up", 1, 2)]),
    Script(3, [("about",), ("swap", 0, 1), ("front", 1, 2)]), Script(3, [("about",), ("front", 0, 2)]),
    Script(2, [("wheel", 0, 1, 1), ("front", 0, 1)]), Script(3, [("wheel", 0, 1, 2), ("up", 0, 2), ("up", 1, -2)]),
    Script(3, [("up", 0, 1), ("front", 0, 1), ("up", 0, -1), ("front", 1, 2)]),
]
# Scripts that move nobody far from the ends.
STILL = [script for script in DRAWN if not any(strides(script))]


def lengths_on(moves):
    """The dict from the lengths of loops to how many have it."""
    told = {}
    for loop in model_loops(moves):
        told[len(loop)] = told.get(len(loop), 0) + 1
    return {length: told[length] // length for length in told}


def told_on(loops, steps):
    """The same as a list of families tells it of the line so many steps behind the first."""
    told = {}
    for length, longer, many, more in loops:
        told[length + longer * steps] = told.get(length + longer * steps, 0) + many + more * steps
    return {length: told[length] for length in told if told[length] != 0}


class PeriodTest(unittest.TestCase):
    def test_period(self):
        for script in DRAWN:
            expected = 2 * math.lcm(*[abs(stride) for stride in strides(script) if stride != 0])
            self.assertEqual(period(script), expected)
        self.assertEqual(period(Script(2, [])), 2)
        self.assertEqual(period(Script(3, [("up", 0, 2), ("up", 1, -3), ("up", 2, 2)])), 12)
        self.assertEqual(period(Script(3, [("up", 0, -5)])), 10)
        self.assertEqual(period(Script(2, [("swap", 0, 1), ("up", 0, 3)])), 6)
        self.assertEqual(period(Script(2, [("about",), ("all", 4), ("front", 0, 1)])), 2)

    def test_from_rows(self):
        for script in DRAWN:
            self.assertEqual(from_rows(script), 4 * turn_of(script) * script.size + 3)
        self.assertEqual(from_rows(Script(2, [])), 3)
        self.assertEqual(from_rows(Script(3, [("about",), ("swap", 0, 1), ("up", 0, 6)])), 195)


class FamiliesTest(unittest.TestCase):
    def check(self, script, rest, step, steps):
        """Asserts what is told against the loops of the first lines of a rest."""
        first, loops = told = families(script, rest, step)
        self.assertEqual([type(told), type(loops)], [tuple, list])
        self.assertEqual(first % step, rest)
        self.assertTrue(from_rows(script) <= first < from_rows(script) + step)
        self.assertEqual(loops, sorted(loops))
        self.assertEqual(len({family[:2] for family in loops}), len(loops))
        for family in loops:
            self.assertTrue(type(family) is tuple and len(family) == 4 and family[2:] != (0, 0))
        for at in steps:
            moves = moves_of(script, first + at * step)
            self.assertEqual(told_on(loops, at), lengths_on(moves), (script.calls(), rest, step, at))

    def test_drawn_scripts(self):
        checked = 0
        for script in DRAWN:
            step = period(script)
            if step <= 60:
                rests = range(step) if script.size < 4 and step < 9 else sorted({0, 1, step // 2, step - 1})
                for rest in rests:
                    self.check(script, rest, step, (0, 1, 2))
                    checked += 1
                self.check(script, min(7, 3 * step - 1), 3 * step, (0, 1))
        self.assertGreater(checked, 200)

    def test_long_steps(self):
        for script in (Script(2, [("up", 0, 1)]), Script(3, [("up", 0, 2), ("wheel", 1, 2, 3)]), Script(2, []),
                       Script(3, [("about",), ("swap", 0, 1), ("up", 0, 1)]), Script(3, [("about",)])):
            step = 2000 // period(script) * period(script)
            told = families(script, 5, step)
            self.check(script, 5, step, (0,))
            places = [sum((length + longer * at) * (many + more * at) for length, longer, many, more in told[1])
                      for at in range(4)]
            self.assertEqual(places, [script.files * (told[0] + at * step) for at in range(4)])

    def test_no_strides(self):
        self.assertEqual(families(Script(2, []), 0, 2), (4, [(1, 0, 8, 4)]))
        self.assertEqual(families(Script(2, []), 1, 2), (3, [(1, 0, 6, 4)]))
        self.assertEqual(families(Script(3, []), 3, 6), (3, [(1, 0, 9, 18)]))
        self.assertEqual(families(Script(2, [("swap", 0, 1)]), 1, 2), (11, [(2, 0, 11, 2)]))
        self.assertEqual(families(Script(3, [("about",)]), 1, 2), (11, [(1, 0, 1, 0), (2, 0, 16, 3)]))
        self.assertEqual(families(Script(3, [("about",)]), 0, 4), (12, [(2, 0, 18, 6)]))
        self.assertEqual(families(Script(2, [("front", 0, 1)]), 0, 2), (8, [(1, 0, 14, 4), (2, 0, 1, 0)]))

    def test_no_step(self):
        for script in DRAWN:
            step = period(script)
            for thing in (1, step - 1, step + 1, step // 2, 2 * step + 1, 1999, 2000):
                if thing % step != 0 and thing > 0:
                    self.assertEqual(raised(self, NoStep, families, script, 0, thing).step, thing)
        raised(self, NoStep, families, Script(3, [("up", 0, 3), ("up", 1, 4), ("up", 2, 1)]), 0, 12)
        families(Script(3, [("up", 0, 3), ("up", 1, 4), ("up", 2, 1)]), 0, 24)

    def test_open(self):
        for script in open_scripts():
            for function, arguments in ((period, ()), (from_rows, ()), (power_of, ()), (families, (0, 2)),
                                        (families, (0, 1))):
                raised(self, Open, function, script, *arguments)

    def test_told_lists_are_new(self):
        script = Script(2, [("up", 0, 1)])
        first, loops = families(script, 0, 2)
        loops.clear()
        self.assertEqual(families(script, 0, 2), (8, [(1, 0, 8, 2), (8, 2, 1, 0)]))

    def test_the_examples(self):
        go = Script(2, [("up", 0, 1), ("wheel", 0, 1, 1)])
        self.assertEqual([period(go), from_rows(go), power_of(Script(2, [("swap", 0, 1)])), power_of(go)],
                         [4, 11, 2, None])
        self.assertEqual(families(Script(2, [("up", 0, 1)]), 0, 2), (8, [(1, 0, 8, 2), (8, 2, 1, 0)]))


class PowerTest(unittest.TestCase):
    def test_none_just_if_a_stride_is_not_0(self):
        for script in DRAWN:
            self.assertEqual(power_of(script) is None, script not in STILL)
        self.assertGreater(len(STILL), 15)

    def test_against_all_lines(self):
        greatest = 0
        for script in STILL:
            most = from_rows(script) + 4
            power = math.lcm(*[len(loop) for rows in range(1, most) for loop in model_loops(moves_of(script, rows))])
            self.assertEqual(power_of(script), power, script.calls())
            greatest = max(greatest, power)
        self.assertGreater(greatest, 6)

    def test_short_lines_count_too(self):
        # Those who do not stand in each other's way on long lines do so on short ones.
        script = Script(2, [("front", 0, 1), ("all", 2), ("front", 0, 1), ("all", -2)])
        self.assertEqual(power_of(script), 2)
        self.assertEqual([lengths_on(model_moves(script, rows)) for rows in (1, 2, 3)], [{1: 2}, {1: 4}, {1: 2, 2: 2}])
        script = Script(3, [("front", 0, 1), ("all", 2), ("front", 1, 2), ("all", -2)])
        self.assertEqual(power_of(script), 6)
        # Here only those of a line of one row stand in each other's way.
        script = Script(3, [("front", 0, 1), ("all", 1), ("front", 1, 2), ("all", -1)])
        self.assertEqual(power_of(script), 6)
        self.assertEqual([lengths_on(model_moves(script, rows)) for rows in (1, 2)], [{3: 1}, {1: 2, 2: 2}])

    def test_few(self):
        self.assertEqual([power_of(Script(2, [])), power_of(Script(3, [("about",)])),
                          power_of(Script(3, [("swap", 0, 1), ("swap", 1, 2)])),
                          power_of(Script(3, [("about",), ("swap", 0, 1)]))], [1, 2, 3, 6])
        self.assertIsNone(power_of(Script(2, [("all", 1)])))
        self.assertEqual(power_of(Script(2, [("all", 1), ("all", -1)])), 1)
        self.assertEqual(power_of(Script(2, [("about",), ("all", 4)])), 2)

    def test_rounds_of_far_lines(self):
        for script in STILL:
            for rows in FAR:
                for row in (0, 1, 5, rows // 2, rows - 1):
                    for file in range(script.files):
                        self.assertEqual(behind(script, rows, (row, file), power_of(script)), (row, file))


if __name__ == "__main__":
    unittest.main()
