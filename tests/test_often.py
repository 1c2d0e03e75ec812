"""How often pupils are in one row, and for how long they are not [72]."""

import random
import unittest
from fractions import Fraction

from pupilpairs.errors import NoPupil
from pupilpairs.meetings import met, strangers
from pupilpairs.often import closest, company, first_after, longest_apart, often
from pupilpairs.scripts import Script
from tests.helpers import (
    OPEN, STRAIGHT, any_values, drawn_scripts, model_moves, model_together, near_pupils, raised,
)

DRAWN = drawn_scripts(720, 40, STRAIGHT + OPEN, many=5, size=8) + drawn_scripts(721, 20, many=2, size=4) + [
    Script(2, []), Script(3, []), Script(2, [("up", 0, 1)]), Script(3, [("up", 0, 1), ("up", 2, -1)]),
    Script(2, [("wheel", 0, 1, 1)]), Script(3, [("wheel", 0, 2, 2)]), Script(2, [("halve",)]), Script(3, [("others",)]),
    Script(3, [("wheel", 0, 1, 1), ("up", 2, 1)]), Script(2, [("wheel", 0, 1, 1), ("front", 0, 1)]),
]
ROWS = (1, 2, 3, 5, 8)


def drawn_pairs(draw, many, count):
    """Pairs of pupils of a line of so many, one and itself among them."""
    return [(draw.randrange(many), draw.randrange(many)) for _ in range(count)] + [(0, 0), (0, many - 1), (1, 0)]


def first_from(behind, again, rounds):
    """The first of the rounds that come again and again, from rounds on, found one by one, or None."""
    if not behind:
        return None
    while rounds % again not in behind:
        rounds += 1
    return rounds


def longest_gap(behind, again):
    """In how many rounds, one behind another, two are not in one row at most, counted one by one, or None."""
    if not behind:
        return None
    best = gap = 0
    for rounds in range(2 * again):
        gap = 0 if rounds % again in behind else gap + 1
        best = max(best, gap)
    return best


class PairsTest(unittest.TestCase):
    def check(self, draw, script, rows, pairs):
        """Asserts what is told of pairs of pupils, against going on round by round."""
        moves = model_moves(script, rows)
        gaps = []
        for one, other in pairs:
            behind, again = model_together(moves, script.files, one, other)
            near = set(behind)
            self.assertEqual(often(script, rows, one, other), (len(behind), again), (script.calls(), rows, one, other))
            gaps.append(longest_gap(near, again))
            self.assertEqual(longest_apart(script, rows, one, other), gaps[-1])
            far = draw.choice([-1, 1]) * draw.randrange(10 ** 39, 10 ** 40)
            for rounds in (*range(-3, 4), again - 1, again, -again, 5 * again + 1, far):
                expected = first_from(near, again, rounds)
                self.assertEqual(first_after(script, rows, one, other, rounds), expected)
        return gaps

    def test_short_lines(self):
        draw = random.Random(722)
        gaps = []
        for script in DRAWN:
            for rows in ROWS:
                gaps += self.check(draw, script, rows, drawn_pairs(draw, script.files * rows, 12))
        self.assertIn(None, gaps)
        self.assertGreater(len(set(gaps)), 15)

    def test_longer_lines(self):
        draw = random.Random(723)
        for script in DRAWN[::5] + DRAWN[-4:]:
            for rows in (13, 16, 40):
                self.check(draw, script, rows, drawn_pairs(draw, script.files * rows, 2))

    def test_lines_of_a_hundred_rows(self):
        draw = random.Random(724)
        for script in DRAWN[:3] + DRAWN[-3:]:
            self.check(draw, script, 100, drawn_pairs(draw, script.files * 100, 0))

    def test_the_other_way_round(self):
        draw = random.Random(725)
        for script in DRAWN:
            for rows in (2, 7):
                for one, other in drawn_pairs(draw, script.files * rows, 6):
                    self.assertEqual(often(script, rows, one, other), often(script, rows, other, one))
                    self.assertEqual(longest_apart(script, rows, one, other), longest_apart(script, rows, other, one))
                    for rounds in (-5, 0, 10 ** 40 - 1):
                        self.assertEqual(first_after(script, rows, one, other, rounds),
                                         first_after(script, rows, other, one, rounds))

    def test_a_pupil_and_itself(self):
        for script in DRAWN:
            for rows in (1, 4, 7):
                moves = model_moves(script, rows)
                for pupil in range(script.files * rows):
                    rounds = model_together(moves, script.files, pupil, pupil)[1]
                    self.assertEqual(often(script, rows, pupil, pupil), (rounds, rounds))
                    self.assertEqual(longest_apart(script, rows, pupil, pupil), 0)
                    for begin in (-10 ** 40 + 1, -1, 0, 7, 10 ** 40 - 1):
                        self.assertEqual(first_after(script, rows, pupil, pupil, begin), begin)

    def test_turned_back(self):
        for script in DRAWN:
            for rows in (2, 5):
                for other in range(1, script.files * rows):
                    self.assertEqual(often(script, rows, 0, other), often(~script, rows, 0, other))
                    self.assertEqual(longest_apart(script, rows, 0, other), longest_apart(~script, rows, 0, other))

    def test_the_examples(self):
        rise = Script(2, [("up", 0, 1)])
        self.assertEqual([often(rise, 3, 0, 3), often(rise, 3, 0, 2), first_after(rise, 3, 0, 3, 10 ** 30),
                          longest_apart(rise, 3, 0, 3), closest(rise, 1)],
                         [(1, 3), (0, 3), 1000000000000000000000000000001, 2, [(0, 1)]])


class CompanyTest(unittest.TestCase):
    def check(self, script, rows, pupil):
        """Asserts what is told of the company of a pupil."""
        many = script.files * rows
        told = company(script, rows, pupil)
        self.assertEqual(list(told), [other for other in range(many) if other != pupil])
        self.assertEqual(sum(Fraction(times, again) for times, again in told.values()), script.files - 1)
        self.assertEqual([other for other in told if told[other][0] > 0], met(script, rows, pupil))
        return told

    def test_short_lines(self):
        for script in DRAWN:
            for rows in ROWS:
                moves = model_moves(script, rows)
                unmet = strangers(script, rows)
                for pupil in range(0, script.files * rows, 1 + rows // 2):
                    told = self.check(script, rows, pupil)
                    for other, share in told.items():
                        behind, again = model_together(moves, script.files, pupil, other)
                        self.assertEqual(share, (len(behind), again), (script.calls(), rows, pupil, other))
                        self.assertIs(type(share), tuple)
                        self.assertEqual(share[0] == 0, (min(pupil, other), max(pupil, other)) in unmet)

    def test_lines_of_many_rows(self):
        for script in DRAWN[::6] + DRAWN[-4:]:
            for rows in (40, 100):
                for pupil in (0, script.files * rows - 1, 63):
                    told = self.check(script, rows, pupil)
                    for other in range(2, script.files * rows, 47):
                        if other != pupil:
                            self.assertEqual(told[other], often(script, rows, pupil, other))

    def test_closest(self):
        seen = {}
        for script in DRAWN:
            for rows in (1, 2, 3, 5):
                moves = model_moves(script, rows)
                shares = {}
                for one in range(script.files * rows):
                    for other in range(one + 1, script.files * rows):
                        behind, again = model_together(moves, script.files, one, other)
                        shares[one, other] = Fraction(len(behind), again)
                most = max(shares.values())
                expected = [pair for pair in shares if shares[pair] == most]
                self.assertEqual(closest(script, rows), expected, (script.calls(), rows))
                self.assertEqual(closest(~script, rows), expected)
                seen[most] = True
        self.assertGreater(len(seen), 8)

    def test_closest_on_twelve_rows(self):
        for script in DRAWN[::4]:
            for rows in (12, 13):
                told = closest(script, rows)
                self.assertEqual(told, sorted(told))
                self.assertEqual(told, closest(~script, rows))
                for one in range(script.files * rows):
                    shares = company(script, rows, one)
                    times, again = often(script, rows, *told[0])
                    for other in range(one + 1, script.files * rows):
                        ahead = Fraction(*shares[other]) - Fraction(times, again)
                        self.assertLessEqual(ahead, 0)
                        self.assertEqual(ahead == 0, (one, other) in told)

    def test_two_lines_by_turns(self):
        lines = [(script, rows) for script in DRAWN[-5:] for rows in (3, 6)]
        told = [(company(*line, 2), closest(*line), often(*line, 0, 4)) for line in lines]
        for line, expected in reversed(list(zip(lines, told))):
            self.assertEqual((company(*line, 2), closest(*line), often(*line, 0, 4)), expected)

    def test_nothing_that_is_passed_is_changed_and_what_is_told_is_new(self):
        for script in DRAWN[::3]:
            calls = script.calls()
            shares, pairs = company(script, 3, 0), closest(script, 3)
            kept = [dict(shares), list(pairs)]
            shares.clear()
            pairs.append((0, 0))
            self.assertEqual([company(script, 3, 0), closest(script, 3)], kept)
            self.assertEqual(script.calls(), calls)


class ErrorsTest(unittest.TestCase):
    def test_no_pupil(self):
        functions = ((often, ()), (first_after, (0,)), (first_after, (-10 ** 39,)), (longest_apart, ()))
        for script, rows in ((Script(2, [("up", 0, 1)]), 1), (Script(3, [("halve",)]), 4), (Script(2, []), 100)):
            for thing in any_values() + near_pupils(script.files, rows):
                self.assertIs(raised(self, NoPupil, company, script, rows, thing).pupil, thing)
                for function, behind in functions:
                    for further in (1, None, -1):
                        error = raised(self, NoPupil, function, script, rows, thing, further, *behind)
                        self.assertIs(error.pupil, thing)
                    error = raised(self, NoPupil, function, script, rows, 0, thing, *behind)
                    self.assertIs(error.pupil, thing)


if __name__ == "__main__":
    unittest.main()
