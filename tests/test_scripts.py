"""The scripts [23], [3], [4]."""

import unittest

from pupilpairs.calls import is_straight, mirrored, size_of, turned
from pupilpairs.errors import NoCall, Unlike, Wrong
from pupilpairs.lines import Line
from pupilpairs.scripts import Script
from tests.helpers import OPEN, STRAIGHT, any_values, drawn_scripts, kinds_of_calls, raised

HUGE = 10 ** 40 - 1
CALLS = [("all", 1), ("up", 0, -2), ("swap", 0, 1), ("halve",)]
DRAWN = drawn_scripts(23, 60, STRAIGHT + OPEN)


class MakingTest(unittest.TestCase):
    def test_lists_and_tuples(self):
        for files in (2, 3):
            for calls in ([], CALLS, kinds_of_calls(files, 3), kinds_of_calls(files, -HUGE)):
                for script in (Script(files, calls), Script(files, tuple(calls))):
                    self.assertEqual(script.files, files)
                    self.assertEqual(script.calls(), calls)
                    self.assertIs(type(script.calls()), list)
                    self.assertEqual(list(script), calls)
                    self.assertEqual(len(script), len(calls))

    def test_a_list_that_is_changed_afterwards(self):
        calls = list(CALLS)
        script = Script(2, calls)
        calls.append(("about",))
        calls[0] = ("pair",)
        self.assertEqual(script.calls(), CALLS)
        self.assertEqual([script.size, len(script)], [5, 4])

    def test_what_is_passed_is_not_changed(self):
        calls = list(CALLS)
        Script(2, calls).times(3)
        self.assertEqual(calls, CALLS)

    def test_returned_lists_are_new(self):
        script = Script(2, CALLS)
        script.calls().clear()
        script.calls().append(("about",))
        self.assertEqual(script.calls(), CALLS)
        self.assertEqual(list(script), CALLS)

    def test_wrong_files(self):
        for files in any_values() + [0, 1, 4, -2, HUGE, (2,), "2"]:
            for calls in ([], CALLS, None, 5, [("up", 9, 1)]):
                self.assertEqual(raised(self, Wrong, Script, files, calls).place, 0)

    def test_wrong_calls(self):
        for files in (2, 3):
            for value in any_values() + [0, 1, ("all", 1), ("about",)]:
                if value not in ([], (), [("all", 1)]):
                    self.assertEqual(raised(self, Wrong, Script, files, value).place, 1, value)
            for value in any_values() + [0, 1]:
                self.assertEqual(raised(self, Wrong, Script, files, [value]).place, 1, value)

    def test_calls_of_which_one_is_none(self):
        for bad in [("up", 2, 1), ("swap", 0, 2), ("swap", 1, 1), ("all", 0), ("all", True), ["all", 1], "all",
                    ("wheel", 2, 0, 1), ("front", True, 0), ("halve", 1), None]:
            for at in range(len(CALLS) + 1):
                calls = CALLS[:at] + [bad] + CALLS[at:]
                self.assertEqual(raised(self, Wrong, Script, 2, calls).place, 1)
                self.assertEqual(raised(self, Wrong, Script, 2, tuple(calls)).place, 1)
        self.assertEqual(Script(3, [("up", 2, 1), ("swap", 0, 2)]).files, 3)

    def test_neither_a_list_nor_a_tuple(self):
        for calls in ({("all", 1): 1}, {("all", 1)}, iter(CALLS), Script(2, CALLS), {}, "", b"", Line(2, 1)):
            self.assertEqual(raised(self, Wrong, Script, 2, calls).place, 1)


class AskingTest(unittest.TestCase):
    def test_size(self):
        self.assertEqual(Script(2, []).size, 0)
        calls = [("all", -3), ("up", 1, 2), ("wheel", 0, 1, -4), ("swap", 0, 1), ("halve",)]
        self.assertEqual(Script(2, calls).size, 11)
        self.assertEqual(Script(2, [("all", HUGE), ("all", -HUGE)]).size, 2 * HUGE)
        for script in DRAWN:
            self.assertEqual(script.size, sum(size_of(call) for call in script.calls()))

    def test_files_and_size_are_properties(self):
        for name in ("files", "size"):
            self.assertIsInstance(vars(Script)[name], property)
            with self.assertRaises(AttributeError):
                setattr(Script(2, []), name, 3)

    def test_is_straight(self):
        self.assertIs(Script(3, []).is_straight(), True)
        for call in kinds_of_calls(3, 2):
            straight = call[0] in STRAIGHT
            self.assertIs(Script(3, [call]).is_straight(), straight)
            self.assertIs(Script(3, [("all", 1), call]).is_straight(), straight)
            self.assertIs(Script(3, [call, ("all", 1)]).is_straight(), straight)
            self.assertIs(Script(3, [("fill",), call]).is_straight(), False)

    def test_call_at(self):
        script = Script(2, CALLS)
        self.assertEqual([script.call_at(index) for index in range(4)], CALLS)

    def test_call_at_what_is_no_index(self):
        for script, bad in ((Script(2, CALLS), [4, 5, -1, -4, HUGE]), (Script(2, []), [0, 1, -1])):
            for thing in any_values() + bad + ["0", (0,), [0]]:
                self.assertIs(raised(self, NoCall, script.call_at, thing).thing, thing)

    def test_equal(self):
        one = Script(2, CALLS)
        self.assertIs(one == Script(2, tuple(CALLS)), True)
        self.assertIs(one != Script(2, tuple(CALLS)), False)
        self.assertIs(Script(2, []) == Script(2, []), True)
        for other in [Script(3, CALLS), Script(2, CALLS[:-1]), Script(2, CALLS + CALLS), Script(2, CALLS[::-1]),
                      Script(2, []), Script(2, [("all", 2)] + CALLS[1:])]:
            self.assertIs(one == other, False)
            self.assertIs(one != other, True)
        self.assertIs(Script(2, []) == Script(3, []), False)

    def test_equal_to_nothing_else(self):
        for script in (Script(2, CALLS), Script(2, [])):
            for value in [list(CALLS), tuple(CALLS), (2, CALLS), None, 2, "2:", [], (), Line(2, 1), object(), Wrong(0)]:
                self.assertIs(script == value, False)
                self.assertIs(value == script, False)
                self.assertIs(script != value, True)

    def test_iterating_twice_at_once(self):
        script = Script(2, CALLS)
        expected = [(one, other) for one in CALLS for other in CALLS]
        self.assertEqual([(one, other) for one in script for other in script], expected)
        self.assertIs(("halve",) in script, True)


class MakingOthersTest(unittest.TestCase):
    def test_product(self):
        one, other = Script(2, CALLS), Script(2, [("about",), ("up", 1, 5)])
        self.assertEqual((one * other).calls(), CALLS + [("about",), ("up", 1, 5)])
        self.assertEqual((other * one).calls(), [("about",), ("up", 1, 5)] + CALLS)
        self.assertEqual([(one * other).files, (one * other).size], [2, 11])
        self.assertEqual(one * Script(2, []), one)
        self.assertEqual([one.calls(), len(other)], [CALLS, 2])
        self.assertEqual((Script(3, [("up", 2, 1)]) * Script(3, [])).files, 3)

    def test_product_of_unlike_files(self):
        for one, other in ((Script(2, CALLS), Script(3, CALLS)), (Script(3, []), Script(2, []))):
            raised(self, Unlike, lambda: one * other)
            raised(self, Unlike, lambda: other * one)

    def test_turned_back(self):
        self.assertEqual((~Script(2, CALLS)).calls(), [("pair",), ("swap", 0, 1), ("up", 0, 2), ("all", -1)])
        self.assertEqual(~Script(3, []), Script(3, []))
        for script in DRAWN:
            self.assertEqual(~script, Script(script.files, [turned(call) for call in script.calls()[::-1]]))
            self.assertEqual(~~script, script)
            self.assertEqual((~script).size, script.size)

    def test_times(self):
        script = Script(3, CALLS)
        back = (~script).calls()
        for k in range(-100, 101):
            told = script.times(k)
            self.assertEqual(told.calls(), CALLS * k if k >= 0 else back * -k)
            self.assertEqual([told.files, told.size], [3, 5 * abs(k)])
        self.assertEqual(script.times(0), Script(3, []))
        self.assertEqual(script.calls(), CALLS)

    def test_without(self):
        script = Script(2, CALLS)
        for index in range(4):
            self.assertEqual(script.without(index), Script(2, [CALLS[i] for i in range(4) if i != index]))
        self.assertEqual(Script(3, [("all", 1)]).without(0), Script(3, []))
        self.assertEqual(script.calls(), CALLS)

    def test_without_what_is_no_index(self):
        for script, bad in ((Script(2, CALLS), [4, 5, -1, -4, HUGE]), (Script(2, []), [0, 1, -1])):
            for thing in any_values() + bad + [("all", 1)]:
                self.assertIs(raised(self, NoCall, script.without, thing).thing, thing)

    def test_with_call(self):
        script = Script(2, CALLS)
        for index in range(5):
            expected = CALLS[:index] + [("front", 1, 0)] + CALLS[index:]
            self.assertEqual(script.with_call(index, ("front", 1, 0)).calls(), expected)
        self.assertEqual(Script(3, []).with_call(0, ("up", 2, HUGE)), Script(3, [("up", 2, HUGE)]))
        self.assertEqual(script.calls(), CALLS)

    def test_with_call_at_what_is_no_index(self):
        script = Script(2, CALLS)
        for thing in any_values() + [5, 6, -1, -5, HUGE]:
            for call in (("all", 1), None, ("up", 2, 1), thing):
                self.assertIs(raised(self, NoCall, script.with_call, thing, call).thing, thing)
        for thing in (1, -1, True, False):
            self.assertIs(raised(self, NoCall, Script(2, []).with_call, thing, ("all", 1)).thing, thing)

    def test_with_what_is_no_call(self):
        script = Script(2, CALLS)
        bad = [0, 1, ("up", 2, 1), ("all", 0), ("swap", 0, 0), ["all", 1], Script(2, [("all", 1)])]
        for call in any_values() + bad:
            for index in range(5):
                self.assertEqual(raised(self, Wrong, script.with_call, index, call).place, 1)
        self.assertEqual(script.calls(), CALLS)

    def test_mirrored(self):
        for script in DRAWN:
            expected = Script(script.files, [mirrored(call, script.files) for call in script.calls()])
            self.assertEqual(script.mirrored(), expected)
            self.assertEqual(script.mirrored().mirrored(), script)
        self.assertEqual(Script(3, [("up", 0, 1), ("all", 2), ("wheel", 1, 2, 3)]).mirrored().calls(),
                         [("up", 2, 1), ("all", 2), ("wheel", 1, 0, 3)])

    def test_asking_changes_nothing(self):
        for script in DRAWN:
            calls, files, size = script.calls(), script.files, script.size
            for _ in (script * script, ~script, script.times(-2), script.mirrored(), script.is_straight(), list(script),
                      script == script, script.with_call(0, ("about",)), len(script)):
                self.assertEqual([script.calls(), script.files, script.size], [calls, files, size])

    def test_straight_as_the_calls(self):
        for script in DRAWN:
            self.assertIs(script.is_straight(), all(is_straight(call) for call in script))

    def test_the_examples(self):
        script = Script(2, [("all", 1), ("swap", 0, 1)])
        self.assertEqual([(~script).calls(), len(script.times(-3)), script.size], [[("swap", 0, 1), ("all", -1)], 6, 2])


if __name__ == "__main__":
    unittest.main()
