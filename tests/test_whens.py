"""Behind which rounds wishes hold [54], [7]."""

import itertools
import math
import random
import unittest

from pupilpairs.corners import behind
from pupilpairs.errors import NoPlace, NoWish, Open
from pupilpairs.moves import place_of
from pupilpairs.scripts import Script
from pupilpairs.whens import clash, is_clash, reach, when, when_all
from tests.helpers import (
    FAR, all_places, any_values, drawn_scripts, model_loops, model_moves, near_places, near_pupils, open_scripts,
    raised,
)

DRAWN = drawn_scripts(540, 40) + [
    Script(3, [("about",), ("swap", 0, 1), ("up", 0, 1)]), Script(2, []), Script(2, [("up", 0, 1)]),
    Script(3, [("up", 0, 1), ("up", 1, 2), ("front", 1, 2)]), Script(3, [("up", 0, 2), ("wheel", 1, 2, 3)]),
]


def near_wishes(files, rows):
    """Values that are nearly wishes of a line."""
    things = [(pupil, (0, 0)) for pupil in near_pupils(files, rows)[:-1] + [files * rows + 10 ** 41]]
    things += [(0, place) for place in near_places(files, rows)]
    return things + [[0, (0, 0)], (0, (0, 0), 0), (0, 0, 0), (0,), ((0, 0), 0), ((0, 0), (0, 0)), (0, 0)]


def drawn_wishes(draw, files, rows, loops, many):
    """Wishes of a line, most of which sometimes hold."""
    told = []
    for _ in range(many):
        pupil = draw.randrange(files * rows)
        number = draw.choice(loops[pupil]) if draw.random() < 0.93 else draw.randrange(files * rows)
        told.append((pupil, place_of(files, number)))
    return told


class ReachTest(unittest.TestCase):
    def test_short_lines_round_by_round(self):
        for script in DRAWN:
            for rows in (1, 2, 3, 6):
                for number, loop in enumerate(model_loops(model_moves(script, rows))):
                    place = place_of(script.files, number)
                    for other, wished in enumerate(all_places(script.files, rows)):
                        rounds = loop.index(other) if other in loop else None
                        self.assertEqual(reach(script, rows, place, wished), rounds)
                        told = when(script, rows, (number, wished))
                        self.assertEqual(told, None if rounds is None else (rounds, len(loop)))
                        self.assertIn(type(told), (tuple, type(None)))

    def test_lines_of_a_hundred_rows(self):
        for script in DRAWN:
            loops = model_loops(model_moves(script, 101))
            for number in range(0, len(loops), 13):
                loop = loops[number]
                for at in (0, 1, len(loop) // 2, len(loop) - 1):
                    if at < len(loop):
                        wished = place_of(script.files, loop[at])
                        self.assertEqual(reach(script, 101, place_of(script.files, number), wished), at)
                        self.assertEqual(when(script, 101, (number, wished)), (at, len(loop)))

    def test_far_lines(self):
        draw = random.Random(541)
        for script in DRAWN:
            for rows in FAR:
                for row in (0, rows - 1, rows // 2, draw.randrange(30)):
                    place = (row, draw.randrange(script.files))
                    pupil = row * script.files + place[1]
                    wished = behind(script, rows, place, draw.choice([0, 1, 7, 10 ** 20, draw.randrange(10 ** 40)]))
                    first, again = when(script, rows, (pupil, wished))
                    self.assertTrue(0 <= first < again)
                    self.assertEqual(reach(script, rows, place, wished), first)
                    for rounds in (first, first + again, first - again, first + 3 * again):
                        self.assertEqual(behind(script, rows, place, rounds), wished)
                    for rounds in (first - 1, first + 1, first + again // 2, first + again - 1):
                        if (rounds - first) % again != 0:
                            self.assertNotEqual(behind(script, rows, place, rounds), wished)
                    for prime in (2, 3, 5, 7, 11):
                        if again % prime == 0:
                            self.assertNotEqual(behind(script, rows, wished, again // prime), wished)

    def test_far_places_that_are_never_reached(self):
        for rows in FAR:
            up = Script(2, [("up", 0, 2)])
            self.assertIsNone(reach(up, rows, (0, 0), (0, 1)))
            self.assertIsNone(when(up, rows, (1, (1, 1))))
            self.assertEqual(when(up, rows, (1, (0, 1))), (0, 1))
            even = rows % 2 == 0
            self.assertEqual(reach(up, rows, (0, 0), (1, 0)), None if even else (rows - 1) // 2)
            self.assertEqual(reach(up, rows, (0, 0), (2, 0)), rows // 2 - 1 if even else rows - 1)
            about = Script(3, [("about",), ("swap", 0, 1)])
            self.assertIsNone(reach(about, rows, (5, 0), (6, 0)))

    def test_errors(self):
        script = Script(3, [("all", 1), ("front", 0, 1)])
        for rows in (1, 4, FAR[0]):
            for thing in any_values() + near_places(3, rows):
                self.assertIs(raised(self, NoPlace, reach, script, rows, thing, (0, 0)).place, thing)
                self.assertIs(raised(self, NoPlace, reach, script, rows, (0, 0), thing).place, thing)
                self.assertIs(raised(self, NoPlace, reach, script, rows, thing, [thing]).place, thing)
            for thing in any_values() + near_wishes(3, rows):
                self.assertIs(raised(self, NoWish, when, script, rows, thing).wish, thing)


class WhenAllTest(unittest.TestCase):
    def check(self, script, rows, wishes, loops):
        """Asserts what is told of wishes, against going round by round up to where all is as at first."""
        many = math.lcm(*[len(loops[pupil]) for pupil, place in wishes])
        held = range(many)
        for pupil, place in wishes:
            loop = loops[pupil]
            number = place[0] * script.files + place[1]
            held = [rounds for rounds in held if loop[rounds % len(loop)] == number]
        told = when_all(script, rows, wishes)
        self.assertEqual(told, (held[0], many) if held else None, (script.calls(), rows, wishes))
        self.assertEqual(len(held), 1 if held else 0)
        found = clash(script, rows, wishes)
        self.assertEqual(found is None, told is not None)
        expected = self.clashes(script, wishes, loops)
        if told is None:
            self.assertEqual(found, expected[0])
            self.assertIs(is_clash(script, rows, wishes, found), True)
        else:
            self.assertEqual(expected, [])
        self.check_clashes(script, rows, wishes, loops)
        return told

    def clashes(self, script, wishes, loops):
        """The clashes with the greatest divisors, in the order in which they are told."""
        told = []
        for index, (pupil, place) in enumerate(wishes):
            if place[0] * script.files + place[1] not in loops[pupil]:
                told.append((index,))
        if told:
            return told
        firsts = [loops[pupil].index(place[0] * script.files + place[1]) for pupil, place in wishes]
        for one, other in itertools.combinations(range(len(wishes)), 2):
            divisor = math.gcd(len(loops[wishes[one][0]]), len(loops[wishes[other][0]]))
            if firsts[one] % divisor != firsts[other] % divisor:
                told.append((one, other, divisor))
        return told

    def check_clashes(self, script, rows, wishes, loops):
        """Asserts of all pairs of indexes, and of many divisors, whether they are a clash."""
        numbers = [place[0] * script.files + place[1] for pupil, place in wishes]
        never = [number not in loops[pupil] for (pupil, place), number in zip(wishes, numbers)]
        for index in range(len(wishes)):
            self.assertIs(is_clash(script, rows, wishes, (index,)), never[index])
        for one, other in itertools.product(range(min(len(wishes), 4)), repeat=2):
            first, second = loops[wishes[one][0]], loops[wishes[other][0]]
            for divisor in (1, 2, 3, 4, 6, len(first), math.gcd(len(first), len(second))):
                expected = (one < other and not never[one] and not never[other] and len(first) % divisor == 0
                            and len(second) % divisor == 0
                            and first.index(numbers[one]) % divisor != second.index(numbers[other]) % divisor)
                thing = (one, other, divisor)
                self.assertIs(is_clash(script, rows, wishes, thing), expected, (script.calls(), rows, wishes, thing))
                self.assertIs(is_clash(script, rows, wishes, (one, other, -divisor)), False)

    def test_short_lines_round_by_round(self):
        draw = random.Random(542)
        told = []
        for script in DRAWN:
            for rows in (1, 2, 3, 4, 5):
                loops = model_loops(model_moves(script, rows))
                for many in (1, 2, 2, 3, 5, 8):
                    wishes = drawn_wishes(draw, script.files, rows, loops, many)
                    if math.lcm(*[len(loops[pupil]) for pupil, place in wishes]) < 3000:
                        told.append(self.check(script, rows, wishes, loops) is None)
        self.assertGreater(told.count(True), 100)
        self.assertGreater(told.count(False), 100)

    def test_wishes_that_hold_behind_one_number_of_rounds(self):
        draw = random.Random(543)
        for script in DRAWN:
            for rows in (4, 9, FAR[0], FAR[3]):
                rounds = draw.randrange(10 ** draw.choice([1, 39]))
                pupils = [draw.randrange(script.files * rows) for _ in range(8)]
                wishes = [(pupil, behind(script, rows, place_of(script.files, pupil), rounds)) for pupil in pupils]
                first, again = when_all(script, rows, wishes)
                self.assertTrue(0 <= first < again)
                self.assertEqual(rounds % again, first)
                self.assertEqual(again, math.lcm(*[when(script, rows, wish)[1] for wish in wishes]))
                self.assertIsNone(clash(script, rows, wishes))
                for pupil, place in wishes:
                    self.assertEqual(behind(script, rows, place_of(script.files, pupil), first - again), place)

    def test_far_clashes(self):
        script = Script(3, [("up", 0, 1), ("up", 1, 1), ("up", 2, 2)])
        rows = 6 * 10 ** 30
        wishes = [(0, (rows - 5, 0)), (1, (rows - 6, 1)), (2, (rows - 10, 2))]
        self.assertIsNone(when_all(script, rows, wishes))
        self.assertEqual(clash(script, rows, wishes), (0, 1, rows))
        for divisor in (2, 3, 5, 6, 10 ** 30, rows // 2, rows):
            self.assertIs(is_clash(script, rows, wishes, (0, 1, divisor)), True)
            self.assertIs(is_clash(script, rows, wishes, (0, 2, divisor)), False)
        self.assertIs(is_clash(script, rows, wishes, (0, 1, 7)), False)
        self.assertIs(is_clash(script, rows, wishes, (0, 1, 1)), False)
        self.assertEqual(when_all(script, rows, [wishes[0], wishes[2]]), (5, rows))
        self.assertEqual(clash(script, rows, [wishes[2], (1, (0, 0)), wishes[0]]), (1,))
        self.assertIs(is_clash(script, rows, [wishes[2], (1, (0, 0)), wishes[0]], (1, 2, 3)), False)

    def test_no_wishes(self):
        for script in DRAWN[:5]:
            for rows in (1, 5, FAR[0]):
                self.assertEqual(when_all(script, rows, []), (0, 1))
                self.assertIsNone(clash(script, rows, []))
                for thing in ((0,), (0, 1, 1), (), (0, 0, 1)):
                    self.assertIs(is_clash(script, rows, [], thing), False)

    def test_equal_wishes_and_the_same_pupil(self):
        up = Script(2, [("up", 0, 1)])
        self.assertEqual(when_all(up, 6, [(0, (3, 0))] * 8), (3, 6))
        self.assertIsNone(when_all(up, 6, [(0, (3, 0)), (0, (2, 0))]))
        self.assertEqual(clash(up, 6, [(0, (3, 0)), (0, (2, 0))]), (0, 1, 6))
        self.assertIs(is_clash(up, 6, [(0, (3, 0))] * 2, (0, 1, 6)), False)

    def test_any_value_as_a_clash(self):
        up = Script(2, [("up", 0, 1)])
        wishes = [(0, (3, 0)), (0, (2, 0)), (1, (0, 0))]
        near = [(0, 1), [0, 1, 6], (0, 1, 6, 0), (1, 0, 6), (0, 1, 0), (0, 1, -6), (0, 1, True), (False, 1, 6),
                (0, True, 6), (0, 1, "6"), (0, 1, None), (0, 1, (6,)), (0, 3, 6), (-3, 1, 6), (0, -2, 6), (0, 0, 6),
                (True,), (3,), (-1,), (0,), (1,), (0, 1, 12), (0, 1, 4), (0, 2, 6)]
        for thing in any_values() + near:
            self.assertIs(is_clash(up, 6, wishes, thing), False, thing)
        for thing in ((0, 1, 2), (0, 1, 3), (0, 1, 6), (2,)):
            self.assertIs(is_clash(up, 6, wishes, thing), True)
        never = [(0, (0, 1)), (1, (0, 1)), (1, (0, 0))]
        self.assertEqual([is_clash(up, 6, never, thing) for thing in ((0,), (1,), (2,), (False,), (0, 1, 2))],
                         [True, False, True, False, False])

    def test_errors_of_wishes(self):
        script = Script(2, [("up", 0, 1)])
        good = (0, (0, 0))
        for rows in (1, 3, FAR[0]):
            for function, more in ((when_all, ()), (clash, ()), (is_clash, ((0,),)), (is_clash, (None,))):
                for thing in any_values() + near_wishes(2, rows):
                    if type(thing) is not list or len(thing) > 8:
                        error = raised(self, NoWish, function, script, rows, thing, *more)
                        self.assertIs(error.wish, thing)
                    for wishes in ([thing], [good, thing, None], [good] * 7 + [thing], [thing] + [[thing]] * 3):
                        self.assertIs(raised(self, NoWish, function, script, rows, wishes, *more).wish, thing)
                for wishes in ([good] * 9, [None] * 9, [good] * 8 + [None], (good, good)):
                    self.assertIs(raised(self, NoWish, function, script, rows, wishes, *more).wish, wishes)
                function(script, rows, [good] * 8, *more)

    def test_open_ahead_of_all_else(self):
        for script in open_scripts():
            for rows in (1, 3, FAR[0]):
                for thing in any_values() + [(0, 0), (0, (0, 0)), [(0, (0, 0))]]:
                    raised(self, Open, reach, script, rows, thing, (0, 0))
                    raised(self, Open, reach, script, rows, (0, 0), thing)
                    for function in (when, when_all, clash):
                        raised(self, Open, function, script, rows, thing)
                    raised(self, Open, is_clash, script, rows, thing, thing)

    def test_nothing_that_is_passed_is_changed(self):
        script = Script(2, [("up", 0, 1)])
        wishes = [(0, (3, 0)), (0, (2, 0))]
        for _ in range(2):
            self.assertIsNone(when_all(script, 6, wishes))
            self.assertEqual(clash(script, 6, wishes), (0, 1, 6))
            self.assertIs(is_clash(script, 6, wishes, (0, 1, 2)), True)
            self.assertEqual(wishes, [(0, (3, 0)), (0, (2, 0))])

    def test_the_examples(self):
        go = Script(2, [("up", 0, 1), ("wheel", 0, 1, 1)])
        self.assertEqual([reach(go, 5, (0, 0), (0, 1)), when(go, 5, (0, (1, 0))),
                          when_all(go, 5, [(0, (1, 0)), (2, (1, 1))]), clash(go, 5, [(0, (1, 0)), (2, (0, 0))])],
                         [3, (2, 10), (2, 10), (0, 1, 10)])


if __name__ == "__main__":
    unittest.main()
