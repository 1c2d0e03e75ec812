"""The lines [31], [7], [10]."""

import unittest

from pupilpairs.errors import NoCall, NoPlace, NoPupil, Unlike, Wrong
from pupilpairs.lines import Line, moves_of
from pupilpairs.moves import moved, number_of, place_of
from pupilpairs.scripts import Script
from tests.helpers import (
    OPEN, STRAIGHT, all_places, any_values, drawn_scripts, kinds_of_calls, known_loops, model_script, raised,
)

HUGE = 10 ** 40 - 1
DRAWN = drawn_scripts(31, 40, STRAIGHT + OPEN)


def led(order, files, calls, rows):
    """An order of pupils, behind calls, by the words of the document."""
    leads = model_script(files, calls, rows)
    result = [None] * len(order)
    for place, pupil in zip(all_places(files, rows), order):
        result[number_of(files, leads[place])] = pupil
    return result


class MakingTest(unittest.TestCase):
    def test_all_stand_as_at_first(self):
        for files in (2, 3):
            for rows in (1, 2, 399, 400):
                line = Line(files, rows)
                self.assertEqual([line.files, line.rows, len(line)], [files, rows, files * rows])
                self.assertEqual(line.order(), list(range(files * rows)))
                self.assertEqual(list(line), list(range(files * rows)))
                self.assertIs(line.is_home(), True)

    def test_files_and_rows_are_properties(self):
        for name in ("files", "rows"):
            self.assertIsInstance(vars(Line)[name], property)
            with self.assertRaises(AttributeError):
                setattr(Line(2, 2), name, 3)

    def test_wrong_files(self):
        for files in any_values() + [0, 1, 4, -2, HUGE]:
            for rows in (1, 0, 401, True, None, files):
                self.assertEqual(raised(self, Wrong, Line, files, rows).place, 0)

    def test_wrong_rows(self):
        for files in (2, 3):
            for rows in any_values() + [0, -1, 401, 402, HUGE, (1,), "1"]:
                self.assertEqual(raised(self, Wrong, Line, files, rows).place, 1)


class AskingTest(unittest.TestCase):
    def check(self, line, order):
        """Asks all that a line tells, against the list of its pupils."""
        files, rows = line.files, line.rows
        self.assertEqual(line.order(), order)
        self.assertEqual(list(line), order)
        self.assertEqual(len(line), files * rows)
        self.assertEqual(line.leaders(), order[:files])
        self.assertIs(line.is_home(), order == sorted(order))
        for number, pupil in enumerate(order):
            place = divmod(number, files)
            self.assertEqual(line.at(place), pupil)
            self.assertEqual(line.place_of(pupil), place)
            begin = number - place[1]
            self.assertEqual(line.row_of(pupil), sorted(set(order[begin:begin + files]) - {pupil}))

    def test_behind_each_kind_of_call(self):
        for files in (2, 3):
            for rows in (1, 2, 3, 6, 7):
                for k in (1, -2, 15):
                    for call in kinds_of_calls(files, k):
                        line = Line(files, rows)
                        self.assertIsNone(line.do(call))
                        order = led(list(range(files * rows)), files, [call], rows)
                        self.check(line, order)
                        self.assertIsNone(line.do(("up", 1, 1)))
                        self.assertIsNone(line.do(call))
                        self.check(line, led(order, files, [("up", 1, 1), call], rows))

    def test_behind_scripts(self):
        for script in DRAWN:
            for rows in (1, 3, 8):
                line = Line(script.files, rows)
                self.assertIsNone(line.do(script))
                order = led(list(range(len(line))), script.files, script.calls(), rows)
                self.check(line, order)
                line.do(script)
                self.check(line, led(order, script.files, script.calls(), rows))

    def test_a_script_is_its_calls_one_behind_another(self):
        for script in DRAWN:
            line, other = Line(script.files, 11), Line(script.files, 11)
            line.do(script)
            for call in script:
                other.do(call)
            self.assertIs(line == other, True)

    def test_a_long_line(self):
        line = Line(3, 400)
        line.do(("halve",))
        line.do(("wheel", 2, 0, 1000))
        self.check(line, led(list(range(1200)), 3, [("halve",), ("wheel", 2, 0, 1000)], 400))
        line.do(("all", 400 * 10 ** 30 + 1))
        self.assertEqual(line.leaders(), [line.at((0, file)) for file in range(3)])

    def test_calls_of_any_size(self):
        line, other = Line(2, 5), Line(2, 5)
        line.do(("all", 5 * 10 ** 39 + 2))
        line.do(("up", 1, -5 * 10 ** 39 - 1))
        line.do(("wheel", 0, 1, 10 ** 40 + 3))
        for call in (("all", 2), ("up", 1, -1), ("wheel", 0, 1, 3)):
            other.do(call)
        self.assertEqual(line.order(), other.order())

    def test_no_place(self):
        for files, rows in ((2, 1), (3, 4)):
            line = Line(files, rows)
            line.do(("all", 1))
            near = [(rows, 0), (0, files), (-1, 0), (0, -1), [0, 0], (True, 0), (0, True), (0, 0, 0), (0,), 0]
            for thing in any_values() + near:
                self.assertIs(raised(self, NoPlace, line.at, thing).place, thing)

    def test_no_pupil(self):
        for files, rows in ((2, 1), (3, 4)):
            line = Line(files, rows)
            line.do(("all", 1))
            for thing in any_values() + [files * rows, files * rows + 1, -1, -2, HUGE, (0, 0), "0", [0]]:
                self.assertIs(raised(self, NoPupil, line.place_of, thing).pupil, thing)
                self.assertIs(raised(self, NoPupil, line.row_of, thing).pupil, thing)

    def test_told_lists_are_new(self):
        line = Line(2, 3)
        line.do(("all", 1))
        for told in (line.order(), line.leaders(), line.row_of(0), moves_of(Script(2, []), 3)):
            told.clear()
        line.order()[0] = 9
        self.check(line, [2, 3, 4, 5, 0, 1])
        self.assertEqual(moves_of(Script(2, []), 3), [0, 1, 2, 3, 4, 5])

    def test_asking_changes_nothing(self):
        line = Line(3, 4)
        line.do(("halve",))
        order = line.order()
        for _ in range(2):
            self.check(line, order)
        line.copied().do(("all", 1))
        self.check(line, order)


class DoingTest(unittest.TestCase):
    def test_no_call(self):
        for files in (2, 3):
            line = Line(files, 3)
            line.do(("halve",))
            order = line.order()
            bad = [("up", files, 1), ("swap", 0, files), ("wheel", files, 0, 1), ("swap", 0, 0), ("all", 0),
                   ("all", True), ["all", 1], [("all", 1)], (("all", 1),), "all 1", ("about", 1), 0, 1,
                   Line(files, 3), Script(5 - files, []), Script(5 - files, [("all", 1)])]
            for thing in any_values() + bad:
                if isinstance(thing, Script) and thing.files == files:
                    continue
                self.assertIs(raised(self, NoCall, line.do, thing).thing, thing)
                self.assertEqual(line.order(), order)

    def test_go_by_rounds(self):
        for script in DRAWN[:25]:
            rows = 5
            line = Line(script.files, rows)
            order = line.order()
            for rounds in range(5):
                other = Line(script.files, rows)
                self.assertIsNone(other.go(script, rounds))
                self.assertEqual(other.order(), order)
                other.go(script, -rounds)
                self.assertIs(other.is_home(), True)
                order = led(order, script.files, script.calls(), rows)

    def test_go_below_0_undoes(self):
        for script in DRAWN[:25]:
            line, other = Line(script.files, 6), Line(script.files, 6)
            line.do(("halve",))
            other.do(("halve",))
            line.go(script, -3)
            for _ in range(3):
                other.do(~script)
            self.assertEqual(line.order(), other.order())
            other.do(script)
            line.go(script, 1)
            self.assertEqual(line.order(), other.order())

    def test_rounds_of_k_and_then_l(self):
        for script in DRAWN[:25]:
            for rows in (1, 2, 7, 30):
                for k, l in ((1, 2), (0, 5), (1000, -999), (-1000, -1), (517, 84), (-20, 30), (7, -7)):
                    line, other = Line(script.files, rows), Line(script.files, rows)
                    line.go(script, k)
                    line.go(script, l)
                    other.go(script, k + l)
                    self.assertEqual(line.order(), other.order())

    def test_a_thousand_rounds_one_by_one(self):
        script = Script(3, [("up", 0, 1), ("halve",), ("wheel", 2, 1, 2)])
        line, other, back = Line(3, 7), Line(3, 7), Line(3, 7)
        for _ in range(1000):
            other.do(script)
        line.go(script, 1000)
        self.assertEqual(line.order(), other.order())
        for _ in range(1000):
            back.do(~script)
        other = Line(3, 7)
        other.go(script, -1000)
        self.assertEqual(back.order(), other.order())

    def test_go_on_the_longest_line(self):
        script = Script(3, [("halve",), ("up", 0, 1), ("others",), ("swap", 1, 2), ("wheel", 0, 2, -3), ("fill",)] * 2)
        line = Line(3, 400)
        line.go(script, 1000)
        line.go(script, -999)
        other = Line(3, 400)
        other.do(script)
        self.assertEqual(line.order(), other.order())

    def test_go_turned_back(self):
        for script in DRAWN:
            line = Line(script.files, 9)
            line.go(script, 1)
            line.do(~script)
            self.assertIs(line.is_home(), True)

    def test_go_with_other_files(self):
        for files in (2, 3):
            line = Line(files, 4)
            line.do(("up", 1, 1))
            order = line.order()
            for rounds in (-1000, -1, 0, 1, 1000):
                for script in (Script(5 - files, []), Script(5 - files, [("all", 1)])):
                    raised(self, Unlike, line.go, script, rounds)
                    self.assertEqual(line.order(), order)

    def test_nothing_that_is_passed_is_changed(self):
        for script in DRAWN[:10]:
            calls = script.calls()
            line = Line(script.files, 4)
            line.do(script)
            line.go(script, -2)
            moves_of(script, 4)
            self.assertEqual(script.calls(), calls)


class ComparingTest(unittest.TestCase):
    def test_copies_go_on_by_themselves(self):
        line = Line(3, 4)
        line.do(("up", 0, 1))
        copy = line.copied()
        self.assertIs(type(copy), Line)
        self.assertIs(line == copy, True)
        self.assertEqual([copy.files, copy.rows, copy.order()], [3, 4, line.order()])
        before = line.order()
        copy.do(("halve",))
        self.assertEqual(line.order(), before)
        self.assertIs(line == copy, False)
        behind = copy.order()
        line.go(Script(3, [("all", 1)]), 2)
        self.assertEqual(copy.order(), behind)

    def test_equal(self):
        line = Line(2, 3)
        self.assertIs(line == Line(2, 3), True)
        self.assertIs(line != Line(2, 3), False)
        for other in (Line(3, 3), Line(2, 4), Line(3, 2)):
            self.assertIs(line == other, False)
            self.assertIs(line != other, True)
        other = Line(2, 3)
        other.do(("all", 1))
        self.assertIs(line == other, False)
        other.do(("all", 2))
        self.assertIs(line == other, True)

    def test_equal_to_nothing_else(self):
        line = Line(2, 3)
        for value in any_values() + [line.order(), (2, 3, line.order()), 6, "line 2 3", Script(2, [])]:
            if not isinstance(value, Line):
                self.assertIs(line == value, False)
                self.assertIs(value == line, False)
                self.assertIs(line != value, True)


class MovesOfTest(unittest.TestCase):
    def test_moves_of_drawn_scripts(self):
        for script in DRAWN:
            for rows in (1, 2, 5, 12):
                leads = model_script(script.files, script.calls(), rows)
                expected = [number_of(script.files, leads[place]) for place in all_places(script.files, rows)]
                self.assertEqual(moves_of(script, rows), expected)

    def test_long_lines(self):
        for script in DRAWN[:12]:
            for rows in (399, 400):
                told = moves_of(script, rows)
                self.assertEqual(sorted(told), list(range(script.files * rows)))
                for number in range(0, script.files * rows, 37):
                    there = moved(script, rows, place_of(script.files, number))
                    self.assertEqual(told[number], number_of(script.files, there))

    def test_each_kind_of_call(self):
        for files in (2, 3):
            for k in (1, -1, 3, -400, 401, 799, 800, -801, 10 ** 39 + 7):
                for call in kinds_of_calls(files, k):
                    for rows in (1, 2, 5, 400):
                        script = Script(files, [call])
                        told = moves_of(script, rows)
                        for number in range(0, files * rows, 1 + rows // 8):
                            there = moved(script, rows, place_of(files, number))
                            self.assertEqual(told[number], number_of(files, there), (call, rows))

    def test_time(self):
        # About 3 at most; it was 50 and more when each place was moved alone.
        script = Script(3, [("wheel", 0, 1, 4), ("wheel", 1, 2, 3), ("up", 0, 2), ("wheel", 0, 2, -4), ("up", 1, 1),
                            ("front", 0, 1)])
        line = Line(3, 400)
        self.assertLess(known_loops(lambda: [moves_of(script, 400) for _ in range(10)]), 20)
        self.assertLess(known_loops(lambda: [line.do(script) for _ in range(10)]), 20)
        self.assertLess(known_loops(lambda: [line.go(script, -1) for _ in range(10)]), 20)

    def test_moves_of_a_long_product(self):
        told = moves_of(Script(3, [("halve",), ("up", 1, 7), ("others",)]).times(100), 400)
        line = Line(3, 400)
        line.go(Script(3, [("halve",), ("up", 1, 7), ("others",)]), 100)
        order = line.order()
        self.assertEqual([order[number] for number in told], list(range(1200)))

    def test_the_examples(self):
        line = Line(2, 3)
        line.do(("all", 1))
        line.do(("others",))
        self.assertEqual([line.order(), line.at((0, 1)), line.row_of(0), line.leaders(), line.is_home()],
                         [[2, 3, 0, 1, 4, 5], 3, [1], [2, 3], False])
        self.assertEqual(moves_of(Script(2, [("all", 1), ("swap", 0, 1)]), 2), [3, 2, 1, 0])


if __name__ == "__main__":
    unittest.main()
