"""Whether scripts are alike [50], and what holds of all lines [5], [6], [7], [10]."""

import random
import unittest

from pupilpairs.alike import alike, is_nothing, parting, parting_to
from pupilpairs.errors import Open, Unlike
from pupilpairs.lines import moves_of
from pupilpairs.moves import moved
from pupilpairs.scripts import Script
from tests.helpers import (
    FAR, OPEN, STRAIGHT, drawn_call, drawn_script, drawn_scripts, known_loops, model_moves, open_scripts, raised,
)


def parted_by_rows(one, other, most):
    """The least line, and the least place there, that parts scripts, by going through the rows; None if none does."""
    for rows in range(1, most + 1):
        places = zip(model_moves(one, rows), model_moves(other, rows))
        unlike = [number for number, (first, second) in enumerate(places) if first != second]
        if unlike:
            return (rows, divmod(unlike[0], one.files))
    return None


def bound(one, other):
    """The number of rows up to which scripts are to be compared [5]."""
    return 4 * max(one.size, other.size) + 3


def parted_on_one_line(rows):
    """Two scripts that are alike on all lines but those of so many rows, a prime."""
    # Two exchanges can change places unless they share just one place, here if `rows` rows up are none.
    swap = [("front", 0, 1)]
    shifted = [("up", 0, rows), ("up", 1, 1)] + swap + [("up", 0, -rows), ("up", 1, -1)]
    return Script(2, swap + shifted), Script(2, shifted + swap)


class PartingTest(unittest.TestCase):
    def check(self, one, other, expected):
        """Asserts what is told of two scripts, both ways about."""
        for first, second in ((one, other), (other, one)):
            self.assertEqual(parting(first, second), expected)
            self.assertIs(alike(first, second), expected is None)

    def test_drawn_pairs_of_small_scripts(self):
        draw = random.Random(50)
        told = []
        for _ in range(250):
            files = draw.choice([2, 3])
            one = drawn_script(draw, files, many=4, size=4)
            calls = one.calls()
            draw.shuffle(calls)
            other = Script(files, calls) if draw.random() < 0.7 else drawn_script(draw, files, many=3, size=4)
            expected = parted_by_rows(one, other, bound(one, other))
            self.check(one, other, expected)
            told.append(expected)
        self.assertGreater(told.count(None), 20)
        self.assertGreater(len(set(told)), 5)

    def test_a_call_and_what_undoes_it_put_in(self):
        draw = random.Random(51)
        for script in drawn_scripts(52, 40, many=10, size=12):
            call = drawn_call(draw, script.files, STRAIGHT, 2)
            undone = (~Script(script.files, [call])).calls()[0]
            for at in range(len(script) + 1):
                other = script.with_call(at, undone).with_call(at, call)
                self.check(script, other, None)
                self.assertIs(is_nothing(~script * other), True)

    def test_neighbours_exchanged(self):
        for files, one, other, both in (
                (2, ("up", 0, 3), ("up", 1, -2), True), (3, ("wheel", 0, 2, 5), ("up", 1, 4), True),
                (3, ("about",), ("swap", 0, 2), True), (2, ("all", 2), ("swap", 0, 1), True),
                (3, ("up", 0, 3), ("front", 1, 2), True), (3, ("wheel", 0, 2, 1), ("wheel", 0, 2, -4), True),
                (3, ("about",), ("swap", 0, 1), False), (2, ("all", 1), ("about",), False),
                (2, ("up", 0, 1), ("swap", 0, 1), False), (3, ("wheel", 0, 1, 1), ("up", 1, 1), False)):
            for ahead in ([], [("up", 0, 1), ("about",)]):
                first, second = Script(files, ahead + [one, other]), Script(files, ahead + [other, one])
                self.assertIs(alike(first, second), both, (one, other))
                self.check(first, second, parted_by_rows(first, second, bound(first, second)))

    def test_parted_on_one_line_alone(self):
        for rows in (2, 3, 5, 7):
            one, other = parted_on_one_line(rows)
            told = parting(one, other)
            self.assertEqual(told[0], rows)
            self.check(one, other, parted_by_rows(one, other, rows))
            for further in (*range(1, rows), *range(rows + 1, bound(one, other)), *FAR):
                for place in ((0, 0), (0, 1), (rows % further, 0), (1 % further, 1), (further - 1, 0)):
                    self.assertEqual(moved(one, further, place), moved(other, further, place))

    def test_parted_on_longer_lines_alone(self):
        for size, rows in ((12, 5), (-12, 5), (60, 7), (420, 8), (27720, 13)):
            self.check(Script(2, [("all", size)]), Script(2, []), (rows, (0, 0)))
            self.check(Script(3, [("up", 1, size), ("front", 0, 1)]), Script(3, [("front", 1, 0)]), (rows, (0, 1)))
        self.check(Script(3, [("about",), ("all", 6)]), Script(3, [("all", 6), ("about",)]), (5, (0, 0)))
        self.check(Script(2, [("wheel", 0, 1, 12)]), Script(2, []), (4, (0, 0)))

    def test_the_least_place(self):
        for script, place in ((Script(3, [("up", 2, 1)]), (0, 2)), (Script(3, [("up", 1, 1)]), (0, 1)),
                              (Script(2, [("all", 1), ("front", 0, 1), ("all", -2), ("front", 0, 1), ("all", 1)]),
                               None)):
            expected = parted_by_rows(script, Script(script.files, []), bound(script, script))
            self.check(script, Script(script.files, []), expected)
            if place is not None:
                self.assertEqual(expected, (2, place))
        back = Script(2, [("all", -1), ("front", 0, 1), ("all", 1)])
        front = Script(2, [("all", 1), ("front", 0, 1), ("all", -1)])
        self.check(back, front, (3, (1, 0)))

    def test_alike_scripts_are_alike_on_all_lines(self):
        for script in drawn_scripts(53, 30):
            other = script * script.times(-1) * script
            self.assertIs(alike(script, other), True)
            for rows in (1, 2, 50, 200):
                self.assertEqual(moves_of(script, rows), moves_of(other, rows))
            for place in ((0, 0), (FAR[0] - 1, 1), (FAR[0] // 2, 0)):
                self.assertEqual(moved(script, FAR[0], place), moved(other, FAR[0], place))

    def test_rounds_of_k_and_then_l(self):
        for script in drawn_scripts(54, 12, many=4, size=4):
            for k, l in ((1, 2), (-2, 3), (3, -3)):
                self.assertIs(alike(script.times(k) * script.times(l), script.times(k + l)), True)

    def test_told_again(self):
        one, other = parted_on_one_line(3)
        calls = one.calls()
        self.assertEqual(parting(one, other), parting(one, other))
        self.assertEqual(one.calls(), calls)

    def test_the_examples(self):
        go = Script(2, [("up", 0, 1), ("wheel", 0, 1, 1)])
        back = Script(2, [("wheel", 0, 1, 1), ("up", 0, 1)])
        self.assertEqual([alike(go, back), parting(go, back), is_nothing(go * ~go)], [False, (2, (0, 0)), True])
        self.assertEqual([parting(Script(2, [("all", 2)]), Script(2, [])),
                          parting_to(Script(2, [("halve",)]), Script(2, []), 60)], [(3, (0, 0)), (2, (0, 1))])


class NothingTest(unittest.TestCase):
    def test_is_nothing(self):
        for files in (2, 3):
            self.assertIs(is_nothing(Script(files, [])), True)
            for call in (("all", 16), ("up", 0, -1), ("swap", 0, 1), ("wheel", 1, 0, 12), ("about",), ("front", 0, 1)):
                script = Script(files, [call])
                self.assertIs(is_nothing(script), False)
                self.assertIs(is_nothing(script * ~script), True)
                self.assertIs(is_nothing(script.times(2)), call[0] in ("swap", "about", "front"))

    def test_nothing_on_all_lines_but_one(self):
        for rows in (2, 3, 5):
            one, other = parted_on_one_line(rows)
            self.assertIs(is_nothing(one * ~other), False)
            self.assertEqual(parting(one * ~other, Script(2, []))[0], rows)

    def test_drawn_scripts(self):
        for script in drawn_scripts(55, 80, many=3, size=3):
            expected = parted_by_rows(script, Script(script.files, []), 4 * script.size + 3) is None
            self.assertIs(is_nothing(script), expected)


class PartingToTest(unittest.TestCase):
    def test_drawn_open_scripts(self):
        draw = random.Random(56)
        told = []
        for _ in range(120):
            files = draw.choice([2, 3])
            one = drawn_script(draw, files, OPEN * 2 + STRAIGHT, 4, 6)
            calls = one.calls()
            draw.shuffle(calls)
            other = Script(files, calls)
            for most in (1, 2, 3, 12):
                expected = parted_by_rows(one, other, most)
                self.assertEqual(parting_to(one, other, most), expected)
                self.assertEqual(parting_to(other, one, most), expected)
            told.append(expected)
        self.assertGreater(told.count(None), 20)
        self.assertGreater(len(set(told)), 5)

    def test_open_calls_that_undo_one_another(self):
        nothing = Script(2, [])
        self.assertIsNone(parting_to(Script(2, [("halve",), ("pair",), ("others",), ("fill",)]), nothing, 60))
        self.assertEqual(parting_to(Script(2, [("halve",)]), Script(2, [("pair",)]), 60), (3, (0, 1)))
        self.assertEqual(parting_to(Script(3, [("others",)]), Script(3, [("fill",)]), 60), (5, (1, 0)))
        self.assertEqual(parting_to(Script(3, [("others",)]), Script(3, [("up", 0, 1)]), 60)[0], 2)

    def check(self, one, other, most):
        """Asserts what is told of two scripts, both ways about, and returns it."""
        expected = parted_by_rows(one, other, most)
        for first, second in ((one, other), (other, one)):
            self.assertEqual(parting_to(first, second, most), expected, (one.calls(), other.calls()))
        return expected

    def test_calls_put_in(self):
        # What both scripts have may stand ahead of what one has more, behind it, or on both sides, twice over.
        draw = random.Random(57)
        told = []
        for script in drawn_scripts(58, 20, STRAIGHT + OPEN * 2, many=8, size=8):
            for at in range(len(script) + 1):
                for calls in ([("halve",), ("pair",)], [("fill",)], script.calls()[at:at + 2], script.calls()[:at],
                              [drawn_call(draw, script.files, STRAIGHT, 9)]):
                    other = script
                    for call in reversed(calls):
                        other = other.with_call(at, call)
                    told.append(self.check(script, other, 10))
        self.assertGreater(told.count(None), 50)
        self.assertGreater(len(set(told)), 8)

    def test_calls_again_and_again(self):
        for a, b in ((("up", 0, 1), ("halve",)), (("front", 0, 1), ("all", 1)), (("others",), ("about",))):
            words = [[], [a], [b], [a, a], [a, b], [a, b, a], [a, a, a], [a, b, b, a], [a, b, a, b, a], [a, a, b, a, a]]
            for one in words:
                for other in words:
                    self.check(Script(2, one), Script(2, other), 9)
                    self.check(Script(3, one), Script(3, other), 7)

    def test_scripts_that_part_late(self):
        for rows in (5, 13, 31, 59):
            one, other = parted_on_one_line(rows)
            for calls in ([("halve",)], [("others",), ("up", 1, 2), ("pair",)]):
                shared = Script(2, calls)
                for first, second in ((shared * one, shared * other), (one * shared, other * shared),
                                      (shared * one * shared, shared * other * shared)):
                    told = self.check(first, second, rows)
                    self.assertEqual(told[0], rows)
                    self.check(first, second, rows - 1)

    def test_time(self):
        # About 7, 7 and 35; it was 110 and more when each call was made and followed place by place.
        calls = [("wheel", 0, 1, 2), ("up", 2, -1), ("halve",), ("swap", 1, 2), ("all", 3), ("others",),
                 ("wheel", 1, 2, -3), ("about",), ("front", 0, 2), ("pair",), ("up", 0, 1)]
        more = [("halve",), ("pair",)]
        one = Script(3, calls)
        for other, most in ((Script(3, calls + more), 40), (Script(3, calls[:2] + more + calls[2:]), 40),
                            (Script(3, more + calls[:-1] + [("up", 0, 2), ("up", 0, -1)]), 80)):
            self.assertIsNone(parting_to(one, other, 60))
            self.assertLess(known_loops(lambda: [parting_to(one, other, 60) for _ in range(10)]), most)

    def test_most(self):
        one, other = parted_on_one_line(7)
        self.assertIsNone(parting_to(one, other, 6))
        for most in (7, 8, 60):
            self.assertEqual(parting_to(one, other, most), parting(one, other))
        self.assertIsNone(parting_to(Script(2, [("all", 27720)]), Script(2, []), 12))
        self.assertEqual(parting_to(Script(2, [("all", 27720)]), Script(2, []), 13), (13, (0, 0)))
        for rows in (53, 59):
            one, other = parted_on_one_line(rows)
            self.assertIsNone(parting_to(one, other, rows - 1))
            self.assertEqual(parting_to(one, other, 60)[0], rows)


class ErrorsTest(unittest.TestCase):
    def test_unlike_ahead_of_open(self):
        for files in (2, 3):
            straight = [Script(files, []), Script(files, [("all", 1)])]
            others = [Script(5 - files, []), Script(5 - files, [("about",)])]
            broken = [script for script in open_scripts() if script.files == 5 - files]
            for one in straight + [script for script in open_scripts() if script.files == files]:
                for other in others + broken:
                    raised(self, Unlike, alike, one, other)
                    raised(self, Unlike, parting, one, other)
                    raised(self, Unlike, parting_to, one, other, 60)

    def test_open(self):
        for script in open_scripts():
            raised(self, Open, is_nothing, script)
            for other in (Script(script.files, []), Script(script.files, [("all", 1)]), script):
                for one, two in ((script, other), (other, script)):
                    raised(self, Open, alike, one, two)
                    raised(self, Open, parting, one, two)
            self.assertIsNone(parting_to(script, script, 5))


if __name__ == "__main__":
    unittest.main()
