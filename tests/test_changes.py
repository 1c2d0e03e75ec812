"""What can be changed in a script [51]."""

import itertools
import random
import unittest

from pupilpairs.alike import alike
from pupilpairs.changes import commute, exchangeable, kept, needless
from pupilpairs.errors import Open, Unlike
from pupilpairs.lines import moves_of
from pupilpairs.scripts import Script
from tests.helpers import STRAIGHT, drawn_call, drawn_script, drawn_scripts, open_scripts, raised


def alike_by_rows(one, other):
    """Whether scripts are alike on all lines that need be looked at [5], place by place."""
    most = 4 * max(one.size, other.size) + 3
    return all(moves_of(one, rows) == moves_of(other, rows) for rows in range(1, most + 1))


def with_alone(script, indexes):
    """The script with some calls alone."""
    return Script(script.files, [script.calls()[index] for index in indexes])


def scripts_with_pairs(seed, count, many):
    """Scripts many of whose calls undo one another or can change places."""
    draw = random.Random(seed)
    told = []
    for _ in range(count):
        files = draw.choice([2, 3])
        calls = []
        for _ in range(draw.randint(0, many // 2)):
            call = drawn_call(draw, files, STRAIGHT, draw.choice([1, 1, 2]))
            calls.append(call)
            if draw.random() < 0.7:
                calls.append((~Script(files, [call])).calls()[0])
        if draw.random() < 0.6:
            draw.shuffle(calls)
        told.append(Script(files, calls))
    return told


DRAWN = scripts_with_pairs(510, 70, 6) + drawn_scripts(511, 20, many=6, size=8)


class NeedlessTest(unittest.TestCase):
    def test_all_pairs_are_tried(self):
        found = 0
        for script in DRAWN:
            expected = []
            for pair in itertools.combinations(range(len(script)), 2):
                rest = [index for index in range(len(script)) if index not in pair]
                if alike_by_rows(script, with_alone(script, rest)):
                    expected.append(pair)
            told = needless(script)
            self.assertEqual(told, expected, script.calls())
            self.assertTrue(all(type(pair) is tuple for pair in told))
            found += len(told)
        self.assertGreater(found, 60)

    def test_edges(self):
        for files in (2, 3):
            self.assertEqual(needless(Script(files, [])), [])
            self.assertEqual(needless(Script(files, [("swap", 0, 1)])), [])
            self.assertEqual(needless(Script(files, [("swap", 0, 1)] * 3)), [(0, 1), (0, 2), (1, 2)])
            # Turned about, those who go up go down.
            self.assertEqual(needless(Script(files, [("all", 5), ("about",), ("all", 5), ("about",)])), [(0, 2)])
            self.assertEqual(needless(Script(files, [("all", 1), ("all", 2), ("all", 4)])), [])
            self.assertEqual(needless(Script(files, [("all", 5), ("about",), ("about",), ("all", -5)])),
                             [(0, 3), (1, 2)])


class ExchangeableTest(unittest.TestCase):
    def test_all_neighbours_are_tried(self):
        found = 0
        for script in DRAWN + scripts_with_pairs(512, 20, 8):
            expected = []
            for index in range(len(script) - 1):
                calls = script.calls()
                calls[index], calls[index + 1] = calls[index + 1], calls[index]
                if alike_by_rows(script, Script(script.files, calls)):
                    expected.append(index)
            self.assertEqual(exchangeable(script), expected, script.calls())
            found += len(expected)
        self.assertGreater(found, 60)

    def test_edges(self):
        for files in (2, 3):
            self.assertEqual(exchangeable(Script(files, [])), [])
            self.assertEqual(exchangeable(Script(files, [("about",)])), [])
            self.assertEqual(exchangeable(Script(files, [("front", 0, 1)] * 4)), [0, 1, 2])
            self.assertEqual(exchangeable(Script(files, [("all", 1), ("about",)])), [])
            # The two are alike on lines of one row and of two.
            self.assertEqual(exchangeable(Script(files, [("all", 1), ("front", 0, 1)])), [])


class CommuteTest(unittest.TestCase):
    def test_drawn_pairs(self):
        draw = random.Random(513)
        told = []
        for script in DRAWN:
            for other in (drawn_script(draw, script.files, many=2, size=2), script.times(2), ~script,
                          Script(script.files, [("about",)]), Script(script.files, [("all", 2)])):
                expected = alike_by_rows(script * other, other * script)
                self.assertIs(commute(script, other), expected)
                self.assertIs(commute(other, script), expected)
                told.append(expected)
        self.assertGreater(told.count(False), 50)

    def test_errors(self):
        for script in open_scripts():
            for other in (Script(2, []), Script(3, [("all", 1)]), script):
                kind = Open if other.files == script.files else Unlike
                raised(self, kind, commute, script, other)
                raised(self, kind, commute, other, script)
        raised(self, Unlike, commute, Script(2, []), Script(3, []))
        raised(self, Unlike, commute, Script(3, [("halve",)]), Script(2, [("halve",)]))


class KeptTest(unittest.TestCase):
    def test_all_lists_are_tried(self):
        shorter = 0
        for script in DRAWN:
            expected = None
            for many in range(len(script) + 1):
                for indexes in itertools.combinations(range(len(script)), many):
                    if expected is None and alike_by_rows(script, with_alone(script, indexes)):
                        expected = list(indexes)
            told = kept(script)
            self.assertEqual(told, expected, script.calls())
            self.assertIs(type(told), list)
            self.assertIs(alike(script, with_alone(script, told)), True)
            shorter += len(told) < len(script)
        self.assertGreater(shorter, 30)

    def test_edges(self):
        for files in (2, 3):
            self.assertEqual(kept(Script(files, [])), [])
            self.assertEqual(kept(Script(files, [("swap", 0, 1)] * 6)), [])
            self.assertEqual(kept(Script(files, [("swap", 0, 1)] * 5)), [0])
            self.assertEqual(kept(Script(files, [("up", 0, 1), ("up", 0, 2), ("up", 0, -3)])), [])
            self.assertEqual(kept(Script(files, [("all", 2), ("all", 1), ("all", 1), ("all", -2)])), [0])
            self.assertEqual(kept(Script(files, [("all", 1), ("all", -2), ("all", 1), ("all", 2)])), [3])


class AllTest(unittest.TestCase):
    def test_open(self):
        for script in open_scripts():
            for function in (needless, exchangeable, kept):
                raised(self, Open, function, script)

    def test_told_lists_are_new(self):
        script = Script(2, [("swap", 0, 1), ("swap", 1, 0), ("all", 1)])
        for function in (needless, exchangeable, kept):
            told = function(script)
            before = list(told)
            self.assertNotEqual(told, [])
            told.clear()
            self.assertEqual(function(script), before)
        self.assertEqual(script.calls(), [("swap", 0, 1), ("swap", 1, 0), ("all", 1)])

    def test_the_examples(self):
        go = Script(2, [("up", 0, 1), ("wheel", 0, 1, 1)])
        back = Script(2, [("wheel", 0, 1, 1), ("up", 0, 1)])
        self.assertIs(commute(go, back), False)
        both = Script(2, [("up", 0, 1), ("up", 1, 2), ("up", 0, -1), ("swap", 0, 1)])
        self.assertEqual([needless(both), exchangeable(both), kept(both)], [[(0, 2)], [0, 1], [1, 3]])


if __name__ == "__main__":
    unittest.main()
