"""Who ever meets whom [71]."""

import random
import unittest

from pupilpairs.errors import NoPupil
from pupilpairs.meetings import all_met, apart, first_meeting, is_apart, met, strangers
from pupilpairs.scripts import Script
from tests.helpers import (
    OPEN, STRAIGHT, any_values, drawn_scripts, is_truth, model_loops, model_moves, model_together, near_pupils, raised,
)

DRAWN = drawn_scripts(710, 40, STRAIGHT + OPEN, many=5, size=8) + drawn_scripts(711, 20, many=2, size=4) + [
    Script(2, []), Script(3, []), Script(2, [("up", 0, 1)]), Script(3, [("up", 0, 1), ("up", 2, -1)]),
    Script(2, [("wheel", 0, 1, 1)]), Script(3, [("wheel", 0, 2, 2)]), Script(2, [("halve",)]), Script(3, [("others",)]),
    Script(3, [("wheel", 0, 1, 1), ("up", 2, 1)]), Script(2, [("wheel", 0, 1, 1), ("front", 0, 1)]),
]
ROWS = (1, 2, 3, 4, 5, 8)


def some_pairs(draw, many, most):
    """Pairs of pupils of a line of so many: all of them, or as many as is said, one and itself among them."""
    pairs = [(one, other) for one in range(many) for other in range(many)]
    return pairs if len(pairs) <= most else draw.sample(pairs, most) + [(0, 0), (0, many - 1), (many - 1, 0)]


def parts_by_places(divisor, first, second, files):
    """Whether a divisor parts those whose loops are two lists of numbers, by the words of the document."""
    if divisor < 1 or len(first) % divisor != 0 or len(second) % divisor != 0:
        return False
    return not any(i % divisor == j % divisor and number // files == other // files
                   for i, number in enumerate(first) for j, other in enumerate(second))


class PairsTest(unittest.TestCase):
    def check(self, script, rows, pairs, seen):
        """Asserts what is told of pairs of pupils, against going on round by round."""
        moves = model_moves(script, rows)
        loops = model_loops(moves)
        for one, other in pairs:
            behind, rounds = model_together(moves, script.files, one, other)
            told = first_meeting(script, rows, one, other)
            self.assertEqual(told, behind[0] if behind else None, (script.calls(), rows, one, other))
            first, second = loops[one], loops[other]
            most = max(len(first), len(second)) + 3
            parting = [divisor for divisor in range(most) if parts_by_places(divisor, first, second, script.files)]
            self.assertEqual(apart(script, rows, one, other), parting[0] if parting else None)
            self.assertEqual(parting == [], behind != [])
            for divisor in range(-2, most):
                is_truth(self, divisor in parting, is_apart(script, rows, one, other, divisor))
            seen[len(parting), behind[:1] == [0], len(behind) > 1, told is not None and told > len(first)] = True

    def test_short_lines(self):
        draw = random.Random(712)
        seen = {}
        for script in DRAWN:
            for rows in ROWS:
                self.check(script, rows, some_pairs(draw, script.files * rows, 30), seen)
        # Pupils who meet at once, late, never; with one divisor that parts them, and with several.
        self.assertGreaterEqual(len(seen), 7)

    def test_lines_of_sixteen_rows(self):
        draw = random.Random(713)
        for script in DRAWN[::3]:
            for rows in (11, 15, 16):
                self.check(script, rows, some_pairs(draw, script.files * rows, 12), {})

    def test_lines_of_many_rows(self):
        draw = random.Random(714)
        for script in DRAWN[::9] + DRAWN[-3:]:
            for rows in (40, 100):
                self.check(script, rows, some_pairs(draw, script.files * rows, 2), {})

    def test_a_pupil_and_itself(self):
        for script in DRAWN:
            for rows in (1, 3, 7):
                for pupil in range(script.files * rows):
                    self.assertEqual(first_meeting(script, rows, pupil, pupil), 0)
                    self.assertIsNone(apart(script, rows, pupil, pupil))
                    for divisor in range(4):
                        self.assertIs(is_apart(script, rows, pupil, pupil, divisor), False)

    def test_the_other_way_round(self):
        draw = random.Random(715)
        for script in DRAWN:
            for rows in (2, 5, 9):
                for one, other in some_pairs(draw, script.files * rows, 12):
                    self.assertEqual(first_meeting(script, rows, one, other), first_meeting(script, rows, other, one))
                    self.assertEqual(apart(script, rows, one, other), apart(script, rows, other, one))

    def test_pupils_who_meet_late(self):
        both = Script(2, [("wheel", 0, 1, 1), ("front", 0, 1)])
        told = [first_meeting(both, 40, 0, other) for other in range(80)]
        self.assertEqual(told, [(model_together(model_moves(both, 40), 2, 0, other)[0] + [None])[0]
                                for other in range(80)])
        # The last one of file 2 goes up while 0 goes down beside it; they pass between two rows and meet at the back.
        loops = Script(3, [("wheel", 0, 1, 1), ("up", 2, 1)])
        self.assertEqual([first_meeting(loops, 7, 0, other) for other in (2, 5, 20)], [0, 1, 7])

    def test_least_and_common_divisors(self):
        rise = Script(2, [("up", 0, 1)])
        for rows in (4, 6, 12, 30):
            for other in range(1, rows):
                expected = [divisor for divisor in range(1, rows + 1) if rows % divisor == 0 and other % divisor != 0]
                self.assertEqual(apart(rise, rows, 0, 2 * other), expected[0])
                for divisor in range(-1, 2 * rows + 2):
                    self.assertIs(is_apart(rise, rows, 0, 2 * other, divisor), divisor in expected)
        # Those of unlike files who both stay in their rows, whose loops have one place.
        self.assertEqual([apart(Script(2, []), 3, 0, 3), is_apart(Script(2, []), 3, 0, 3, 1)], [1, True])

    def test_things_that_are_no_divisor(self):
        rise = Script(2, [("up", 0, 1)])
        self.assertIs(is_apart(rise, 3, 0, 2, 3), True)
        for thing in any_values() + [0, -1, -3, 2, 6, 10 ** 40, (3,), [3], "3", {3: 3}]:
            self.assertIs(is_apart(rise, 3, 0, 2, thing), False, thing)
        self.assertIs(is_apart(Script(2, []), 2, 0, 2, True), False)
        self.assertIs(is_apart(Script(2, []), 2, 0, 2, 1), True)


class AllTest(unittest.TestCase):
    def check(self, script, rows):
        """Asserts what is told of all pupils of a line."""
        moves = model_moves(script, rows)
        many = script.files * rows
        firsts = {}
        for one in range(many):
            for other in range(one + 1, many):
                behind = model_together(moves, script.files, one, other)[0]
                firsts[one, other] = behind[0] if behind else None
        unmet = [pair for pair in firsts if firsts[pair] is None]
        self.assertEqual(strangers(script, rows), unmet, (script.calls(), rows))
        self.assertEqual(all_met(script, rows), None if unmet else max(firsts.values()), (script.calls(), rows))
        for one in range(many):
            expected = [other for other in range(many)
                        if other != one and firsts[min(one, other), max(one, other)] is not None]
            self.assertEqual(met(script, rows, one), expected)
        return unmet == []

    def test_short_lines(self):
        told = [self.check(script, rows) for script in DRAWN for rows in (1, 2, 3, 4)]
        self.assertGreater(told.count(True), 20)
        self.assertGreater(told.count(False), 20)

    def test_longer_lines(self):
        told = [self.check(script, rows) for script in DRAWN[::7] + DRAWN[-2:] for rows in (6, 12, 13)]
        self.assertIn(True, told)

    def test_lines_on_which_all_meet_late(self):
        told = {}
        for script in drawn_scripts(716, 60, STRAIGHT + OPEN, many=5, size=6):
            for rows in (2, 3, 4, 5):
                told[all_met(script, rows)] = self.check(script, rows)
        self.assertGreater(max(rounds for rounds in told if rounds is not None), 12)

    def test_met_on_lines_of_many_rows(self):
        for script in DRAWN[:4] + DRAWN[-6:]:
            for rows in (40, 100):
                moves = model_moves(script, rows)
                for pupil in (0, script.files * rows - 1, 57):
                    told = met(script, rows, pupil)
                    self.assertEqual(told, sorted(set(told) - {pupil}))
                    for other in range(3, script.files * rows, 41):
                        behind = model_together(moves, script.files, pupil, other)[0]
                        self.assertEqual(other in told, behind != [] and other != pupil)

    def test_one_row(self):
        for script in DRAWN:
            self.assertEqual([all_met(script, 1), strangers(script, 1)], [0, []])
            self.assertEqual(met(script, 1, 1), [0, 2][:script.files - 1])

    def test_two_lines_by_turns(self):
        lines = [(script, rows) for script in DRAWN[-4:] for rows in (3, 5)]
        told = [(met(*line, 1), strangers(*line), all_met(*line), apart(*line, 0, 4)) for line in lines]
        for _ in range(2):
            for line, expected in reversed(list(zip(lines, told))):
                self.assertEqual((met(*line, 1), strangers(*line), all_met(*line), apart(*line, 0, 4)), expected)

    def test_nothing_that_is_passed_is_changed_and_told_lists_are_new(self):
        for script in DRAWN:
            calls = script.calls()
            for rows in (2, 3):
                told = (met(script, rows, 0), strangers(script, rows))
                kept = [list(one) for one in told]
                for one in told:
                    one.append((0, 0))
                self.assertEqual([met(script, rows, 0), strangers(script, rows)], kept)
            self.assertEqual(script.calls(), calls)

    def test_the_examples(self):
        rise = Script(2, [("up", 0, 1)])
        self.assertEqual([first_meeting(rise, 3, 0, 3), first_meeting(rise, 3, 0, 2), apart(rise, 3, 0, 2),
                          met(rise, 3, 0), all_met(rise, 1)], [2, None, 3, [1, 3, 5], 0])


class ErrorsTest(unittest.TestCase):
    def test_no_pupil(self):
        for script, rows in ((Script(2, [("up", 0, 1)]), 1), (Script(3, [("halve",)]), 4), (Script(2, []), 100)):
            for thing in any_values() + near_pupils(script.files, rows):
                self.assertIs(raised(self, NoPupil, met, script, rows, thing).pupil, thing)
                for further in (1, None, -1):
                    for function, behind in ((first_meeting, ()), (apart, ()), (is_apart, (1,)), (is_apart, (None,))):
                        error = raised(self, NoPupil, function, script, rows, thing, further, *behind)
                        self.assertIs(error.pupil, thing)
                for function, behind in ((first_meeting, ()), (apart, ()), (is_apart, (1,)), (is_apart, (None,))):
                    error = raised(self, NoPupil, function, script, rows, 0, thing, *behind)
                    self.assertIs(error.pupil, thing)


if __name__ == "__main__":
    unittest.main()
