"""How a script moves the files far from the ends [52]."""

import unittest

from pupilpairs.errors import Open
from pupilpairs.lanes import middle, strides, turn_of
from pupilpairs.moves import moved
from pupilpairs.scripts import Script
from tests.helpers import FAR, STRAIGHT, drawn_scripts, kinds_of_calls, open_scripts, raised

DRAWN = drawn_scripts(520, 80)
# Scripts by how many rounds it takes until each file comes back to itself with sign 1.
BY_TURN = {
    1: [Script(2, []), Script(3, [("all", 3), ("front", 0, 2)]), Script(2, [("about",), ("up", 0, 2), ("about",)]),
        Script(3, [("wheel", 2, 0, 5), ("up", 1, -3)])],
    2: [Script(2, [("about",)]), Script(3, [("about",), ("up", 2, 4)]), Script(2, [("swap", 0, 1), ("up", 0, 3)]),
        Script(3, [("swap", 1, 2), ("all", 1)]), Script(2, [("about",), ("swap", 0, 1), ("wheel", 0, 1, 3)]),
        Script(3, [("swap", 0, 2), ("about",)])],
    3: [Script(3, [("swap", 0, 1), ("swap", 1, 2)]), Script(3, [("swap", 0, 2), ("up", 1, 4), ("swap", 1, 2)]),
        Script(3, [("about",), ("swap", 0, 1), ("about",), ("swap", 0, 1), ("wheel", 0, 1, 2)])],
    6: [Script(3, [("about",), ("swap", 0, 1)]), Script(3, [("swap", 1, 2), ("up", 0, 2), ("about",), ("all", 1)])],
}


def led_far(script, rows, file, rounds):
    """Where the line itself leads a row far from its ends: the file, the sign and the shift."""
    ends = []
    row = rows // 2
    for begin in (row, row + 1):
        place = (begin, file)
        for _ in range(rounds):
            place = moved(script, rows, place)
        ends.append(place)
    sign = ends[1][0] - ends[0][0]
    return (ends[0][1], sign, ends[0][0] - (row if sign == 1 else rows - 1 - row))


class LanesTest(unittest.TestCase):
    def check(self, script):
        """Asserts what is told of a script, against the line itself."""
        for rows in (20 * script.size + 9, *FAR[:2]):
            self.assertEqual(middle(script), [led_far(script, rows, file, 1) for file in range(script.files)])
            rounds = 1
            while [led_far(script, rows, file, rounds)[:2] for file in range(script.files)] != \
                    [(file, 1) for file in range(script.files)]:
                rounds += 1
            self.assertEqual(turn_of(script), rounds)
            self.assertEqual(strides(script), [led_far(script, rows, file, rounds)[2] for file in range(script.files)])
        self.assertIn(turn_of(script), (1, 2, 3, 6))

    def test_each_kind_of_call(self):
        for files in (2, 3):
            for k in (1, -1, 7, -16):
                for call in kinds_of_calls(files, k):
                    if call[0] in STRAIGHT:
                        self.check(Script(files, [call]))

    def test_drawn_scripts(self):
        for script in DRAWN:
            self.check(script)

    def test_each_turn(self):
        for turn, scripts in BY_TURN.items():
            for script in scripts:
                self.assertEqual(turn_of(script), turn)
                self.check(script)

    def test_great_sizes(self):
        for k in (10 ** 40 - 1, -10 ** 40 + 1):
            script = Script(3, [("up", 0, k), ("about",), ("wheel", 0, 2, k), ("front", 0, 1)])
            self.assertEqual(middle(script), [(2, -1, 2 * k), (1, -1, 0), (0, -1, -k)])
            self.assertEqual(turn_of(script), 2)
            self.assertEqual(strides(script), [-3 * k, 0, 3 * k])
        script = BY_TURN[6][1].times(50)
        self.assertEqual(script.size, 250)
        self.check(script)

    def test_turned_back(self):
        for script in DRAWN:
            self.assertEqual(turn_of(~script), turn_of(script))
            self.assertEqual(strides(~script), [-stride for stride in strides(script)])
            self.assertEqual(middle(script * ~script), [(file, 1, 0) for file in range(script.files)])

    def test_rounds(self):
        for script in DRAWN:
            turn = turn_of(script)
            self.assertEqual([way[:2] for way in middle(script.times(turn))], [(f, 1) for f in range(script.files)])
            self.assertEqual([way[2] for way in middle(script.times(turn))], strides(script))
            self.assertEqual(strides(script.times(turn * 3)), [3 * stride for stride in strides(script)])

    def test_open(self):
        for script in open_scripts():
            for function in (middle, turn_of, strides):
                raised(self, Open, function, script)

    def test_told_lists_are_new(self):
        script = Script(2, [("up", 0, 1)])
        for function in (middle, strides):
            told = function(script)
            before = list(told)
            told.clear()
            self.assertEqual(function(script), before)
        self.assertEqual([type(way) for way in middle(script)], [tuple, tuple])

    def test_the_examples(self):
        go = Script(2, [("up", 0, 1), ("wheel", 0, 1, 1)])
        self.assertEqual([middle(go), turn_of(go), strides(go), turn_of(Script(2, [("about",)])),
                          strides(Script(2, [("swap", 0, 1), ("up", 0, 3)]))],
                         [[(0, 1, -2), (1, 1, 1)], 1, [-2, 1], 2, [-3, -3]])


if __name__ == "__main__":
    unittest.main()
