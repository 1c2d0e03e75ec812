"""Where rounds lead [53], [7], [10]."""

import random
import unittest

from pupilpairs.corners import along, behind, is_walk, mates, walk
from pupilpairs.errors import NoPlace, NoPupil, Open
from pupilpairs.lanes import turn_of
from pupilpairs.moves import moved, number_of, place_of
from pupilpairs.scripts import Script
from pupilpairs.stretches import stretch_at
from tests.helpers import (
    FAR, any_values, drawn_scripts, model_loops, model_moves, near_places, near_pupils, open_scripts, raised,
)

DRAWN = drawn_scripts(530, 45)
# By two rows up or down, evenly but for one row, over which those of every other row are led.
SKIPPING = [Script(2, [("all", 7), ("front", 0, 1), ("all", -5)]),
            Script(2, [("all", 5), ("front", 1, 0), ("all", -7)])]
TURNING = [
    Script(3, [("about",), ("swap", 0, 1), ("up", 0, 1)]), Script(3, [("swap", 0, 1), ("swap", 1, 2), ("up", 1, 2)]),
    Script(2, [("about",), ("wheel", 0, 1, 1)]), Script(3, [("swap", 0, 2), ("front", 0, 1), ("up", 2, -1)]),
    Script(2, [("front", 0, 1), ("wheel", 1, 0, 3), ("swap", 0, 1)]), Script(3, [("about",)]), Script(2, []),
    Script(3, [("about",), ("swap", 1, 2), ("up", 2, 5), ("front", 0, 2), ("all", -3)]),
    Script(2, [("up", 0, 16)]), SKIPPING[0], SKIPPING[1], Script(3, [("up", 0, 1), ("up", 1, -1), ("front", 0, 1)]),
]
SHORT = (1, 2, 3, 4, 5, 6, 9, 14)
ROUNDS = (0, 1, -1, 2, -2, 3, 5, -7, 30, 1000, -1001, 10 ** 40 - 1, -10 ** 40 + 1)


def keeps_to(script, rows, place, many, end):
    """Whether many rounds lead from a place to an end as a walk asks, asked of `moved` and `stretch_at`."""
    turn = turn_of(script)
    if many == 1:
        return moved(script, rows, place) == end
    if many % turn != 0:
        return False
    great = script.times(turn)
    next_row, file = moved(great, rows, place)
    times, step = many // turn, next_row - place[0]
    last = place[0] + (times - 1) * step
    if file != place[1] or end != (last + step, file):
        return False
    # What is led evenly by one stretch at its first and last place is so between them.
    if not 0 <= last < rows or stretch_at(great, rows, place) != stretch_at(great, rows, (last, file)):
        return False
    return moved(great, rows, (last, file)) == end


class BehindTest(unittest.TestCase):
    def test_short_lines_round_by_round(self):
        for script in DRAWN + TURNING:
            for rows in SHORT:
                loops = model_loops(model_moves(script, rows))
                for number, loop in enumerate(loops):
                    place = place_of(script.files, number)
                    for rounds in ROUNDS[:4] if number % 5 else ROUNDS:
                        there = place_of(script.files, loop[rounds % len(loop)])
                        self.assertEqual(behind(script, rows, place, rounds), there)

    def test_lines_of_hundreds_of_rows(self):
        for script in (DRAWN + TURNING)[::4]:
            rows = 211
            loops = model_loops(model_moves(script, rows))
            for number in range(0, len(loops), 17):
                loop = loops[number]
                for rounds in (1, 15, -20, len(loop) - 1, len(loop), 99, 10 ** 39):
                    there = place_of(script.files, loop[rounds % len(loop)])
                    self.assertEqual(behind(script, rows, place_of(script.files, number), rounds), there)

    def test_far_lines_by_k_rounds_and_then_l(self):
        draw = random.Random(531)
        for script in DRAWN + TURNING:
            for rows in (10 ** 30 + draw.randrange(60), *FAR):
                for row in (0, rows - 1, draw.randrange(20), rows - draw.randint(1, 20), draw.randrange(rows)):
                    place = (row, draw.randrange(script.files))
                    k, l = [draw.choice([-1, 1]) * draw.randrange(10 ** draw.choice([1, 30, 40])) for _ in range(2)]
                    there = behind(script, rows, place, k + l)
                    self.assertEqual(behind(script, rows, behind(script, rows, place, k), l), there)
                    self.assertEqual(behind(script, rows, there, -k - l), place)
                    self.assertEqual(behind(~script, rows, place, k), behind(script, rows, place, -k))

    def test_far_lines_by_few_rounds(self):
        draw = random.Random(532)
        for script in DRAWN + TURNING:
            rows = draw.choice(FAR)
            for row in (0, 3, rows - 1, rows - 4, rows // 2):
                place = there = (row, draw.randrange(script.files))
                for rounds in range(40):
                    self.assertEqual(behind(script, rows, place, rounds), there)
                    self.assertEqual(behind(script, rows, there, -rounds), place)
                    there = moved(script, rows, there)

    def test_known_far_loops(self):
        up = Script(3, [("up", 1, 7)])
        for rows in FAR:
            self.assertEqual(behind(up, rows, (5, 1), 10 ** 39), ((5 - 7 * 10 ** 39) % rows, 1))
            self.assertEqual(behind(up, rows, (5, 0), 10 ** 39), (5, 0))
            wheel = Script(2, [("wheel", 0, 1, 3)])
            self.assertEqual(behind(wheel, rows, (rows - 1, 0), rows * 10 ** 10), moved(
                Script(2, [("wheel", 0, 1, 3 * rows * 10 ** 10)]), rows, (rows - 1, 0)))

    def test_errors(self):
        script = Script(3, [("all", 1), ("front", 0, 1)])
        for rows in (1, 4, FAR[0]):
            for thing in any_values() + near_places(3, rows):
                for rounds in (0, 1, -5):
                    self.assertIs(raised(self, NoPlace, behind, script, rows, thing, rounds).place, thing)
                self.assertIs(raised(self, NoPlace, walk, script, rows, thing).place, thing)

    def test_open_ahead_of_all_else(self):
        for script in open_scripts():
            for rows in (1, 4, FAR[0]):
                for thing in any_values() + [(0, 0), 0, [((0, 0), 1)]]:
                    raised(self, Open, behind, script, rows, thing, 1)
                    raised(self, Open, walk, script, rows, thing)
                    raised(self, Open, mates, script, rows, thing, 1)
                    raised(self, Open, is_walk, script, rows, thing)
                    raised(self, Open, along, script, rows, thing, 1)


class MatesTest(unittest.TestCase):
    def test_short_lines_round_by_round(self):
        for script in DRAWN[::2] + TURNING:
            for rows in (1, 2, 5, 7):
                order = list(range(script.files * rows))
                moves = model_moves(script, rows)
                for rounds in range(6):
                    for number, pupil in enumerate(order):
                        begin = number - number % script.files
                        expected = sorted(set(order[begin:begin + script.files]) - {pupil})
                        self.assertEqual(mates(script, rows, pupil, rounds), expected)
                    order = [order[moves.index(number)] for number in range(len(order))]

    def test_rounds_below_0(self):
        for script in DRAWN[::3] + TURNING:
            for rows in (3, 6, FAR[1]):
                for pupil in (0, 4, script.files * rows - 1):
                    for rounds in (1, 3, 10 ** 20):
                        told = mates(script, rows, pupil, -rounds)
                        self.assertEqual(told, mates(~script, rows, pupil, rounds))
                        self.assertEqual(len(told), script.files - 1)

    def test_far_lines(self):
        for script in DRAWN + TURNING:
            for rows in FAR[:2]:
                for pupil, rounds in ((0, 10 ** 39), (script.files * rows - 1, 10 ** 18), (rows + 1, -10 ** 25)):
                    told = mates(script, rows, pupil, rounds)
                    self.assertEqual(told, sorted(told))
                    row, file = behind(script, rows, place_of(script.files, pupil), rounds)
                    files = {file}
                    for other in told:
                        place = behind(script, rows, place_of(script.files, other), rounds)
                        self.assertEqual(place[0], row)
                        files.add(place[1])
                    self.assertEqual(files, set(range(script.files)))

    def test_no_pupil(self):
        for rows in (1, 4, FAR[0]):
            for thing in any_values() + near_pupils(2, rows):
                if thing != 10 ** 40 or rows < 10:
                    error = raised(self, NoPupil, mates, Script(2, [("all", 1)]), rows, thing, 3)
                    self.assertIs(error.pupil, thing)


class WalkTest(unittest.TestCase):
    def check(self, script, rows, place):
        """Asserts all that a walk is, and returns it."""
        told = walk(script, rows, place)
        self.assertIs(type(told), list)
        self.assertTrue(1 <= len(told) <= 10000)
        self.assertEqual(told[0][0], place)
        for index, (begin, many) in enumerate(told):
            end = told[(index + 1) % len(told)][0]
            self.assertTrue(many >= 1 and type(told[index]) is tuple and type(begin) is tuple)
            self.assertTrue(keeps_to(script, rows, begin, many, end), (script.calls(), rows, begin, many, end))
        self.assertIs(is_walk(script, rows, told), True)
        return told

    def test_short_lines(self):
        for script in DRAWN + TURNING:
            for rows in SHORT:
                for number, loop in enumerate(model_loops(model_moves(script, rows))):
                    told = self.check(script, rows, place_of(script.files, number))
                    self.assertEqual(sum(many for place, many in told), len(loop))
                    for rounds in (0, 1, len(loop) - 1, len(loop) + 2, -1, -10 ** 39):
                        there = place_of(script.files, loop[rounds % len(loop)])
                        self.assertEqual(along(script, rows, told, rounds), there)

    def test_lines_of_hundreds_of_rows(self):
        for script in (DRAWN + TURNING)[::3]:
            for rows in (67, 130, 300):
                loops = model_loops(model_moves(script, rows))
                for number in (0, 5, len(loops) // 2, len(loops) - 1):
                    told = self.check(script, rows, place_of(script.files, number))
                    self.assertEqual(sum(many for place, many in told), len(loops[number]))

    def test_far_lines(self):
        draw = random.Random(533)
        for script in DRAWN + TURNING:
            for rows in (3334, 10 ** 30 + draw.randrange(60), FAR[2]):
                for row in (0, rows - 1, rows // 3):
                    place = (row, draw.randrange(script.files))
                    told = self.check(script, rows, place)
                    # No place comes twice, as would happen if a walk went round more than once.
                    self.assertEqual(len({begin for begin, many in told}), len(told))
                    self.assertEqual(behind(script, rows, place, sum(many for begin, many in told)), place)
                    for rounds in (1, 10 ** 20, -10 ** 39, 12345):
                        self.assertEqual(along(script, rows, told, rounds), behind(script, rows, place, rounds))

    def test_great_sizes_of_returned_scripts(self):
        for script in (Script(3, [("about",), ("swap", 0, 1), ("up", 0, 1), ("front", 1, 2)]).times(9),
                       Script(2, [("wheel", 0, 1, 3), ("front", 0, 1), ("swap", 0, 1)]).times(8)):
            for rows in (30, 4000, FAR[3]):
                for row in (0, rows - 1, rows // 2):
                    self.check(script, rows, (row, 1))

    def test_told_lists_are_new(self):
        script = Script(2, [("up", 0, 1), ("front", 0, 1)])
        for function, arguments in ((walk, (script, 9, (0, 0))), (mates, (script, 9, 0, 4))):
            told = function(*arguments)
            before = list(told)
            told.clear()
            self.assertEqual(function(*arguments), before)


class IsWalkTest(unittest.TestCase):
    def test_round_by_round(self):
        for script in DRAWN[::3] + TURNING:
            for rows in (2, 5, 9):
                for number, loop in enumerate(model_loops(model_moves(script, rows))[:7]):
                    told = [(place_of(script.files, one), 1) for one in loop]
                    self.assertIs(is_walk(script, rows, told), True)
                    self.assertIs(is_walk(script, rows, told * 2), True)
                    self.assertIs(is_walk(script, rows, told[::-1]), len(loop) < 3)
                    for rounds in (0, 3, -1, len(loop) + 1):
                        there = place_of(script.files, loop[rounds % len(loop)])
                        self.assertEqual(along(script, rows, told * 2, rounds), there)

    def test_all_steps_on_short_lines(self):
        yes = no = 0
        for script in DRAWN[::4] + TURNING:
            turn = turn_of(script)
            for rows in (1, 2, 4, 7):
                loops = model_loops(model_moves(script, rows))
                for number in range(0, len(loops), 3):
                    place = place_of(script.files, number)
                    for many in range(1, 5 * turn + 1):
                        end = loops[number][many % len(loops[number])]
                        back = [(place_of(script.files, one), 1) for one in loops[end][:loops[end].index(number)]]
                        thing = [(place, many)] + back
                        expected = keeps_to(script, rows, place, many, place_of(script.files, end))
                        self.assertIs(is_walk(script, rows, thing), expected, (script.calls(), rows, thing))
                        if expected:
                            yes += 1
                            for rounds in range(0, many, 2):
                                there = place_of(script.files, loops[number][rounds % len(loops[number])])
                                self.assertEqual(along(script, rows, thing, rounds), there)
                        else:
                            no += 1
        self.assertTrue(yes > 400 and no > 400)

    def test_rounds_that_leave_a_stretch(self):
        for rows in (20, 21, FAR[0]):
            up, down = SKIPPING
            self.assertEqual(stretch_at(up, rows, (8, 0)), (0, 8, rows - 1, 0, 1, -2))
            self.assertEqual(stretch_at(down, rows, (6, 0)), (0, 6, rows - 3, 0, 1, 2))
            for many, holds in ((1, True), (2, True), (3, True), (4, True), (5, False), (6, False)):
                for script, place, end in ((up, (14, 0), (14 - 2 * many, 0)), (down, (6 - 2 * (many - 4), 0), (14, 0))):
                    self.assertEqual(behind(script, rows, place, many), end)
                    rest = walk(script, rows, end)
                    left = sum(rounds for begin, rounds in rest) - many
                    thing = [(place, many)] + [(behind(script, rows, end, done), 1) for done in range(min(left, 60))]
                    if left < 60:
                        self.assertIs(is_walk(script, rows, thing), holds, thing)
                    self.assertIs(keeps_to(script, rows, place, many, end), holds)

    def test_rounds_that_turn_rows_about(self):
        # As many rows on, twice, would lead to another place of the loop; but what is turned about comes back.
        for files, calls, rows, place in (
                (2, [("about",), ("wheel", 0, 1, -1), ("all", 1), ("front", 0, 1)], 3, (2, 1)),
                (2, [("wheel", 1, 0, 2), ("all", 2), ("about",)], 3, (0, 0)),
                (2, [("front", 0, 1), ("swap", 1, 0), ("wheel", 0, 1, 2)], 9, (2, 1)),
                (3, [("swap", 0, 2), ("wheel", 2, 0, 2), ("front", 0, 2)], 7, (2, 0))):
            script = Script(files, calls)
            self.assertEqual(turn_of(script), 2)
            there = behind(script, rows, place, 2)
            self.assertEqual(stretch_at(script.times(2), rows, place), stretch_at(script.times(2), rows, there))
            self.assertEqual(behind(script, rows, there, 2), place)
            loop = [begin for begin, many in self.singles(script, rows, place)]
            further = loop.index((2 * there[0] - place[0], place[1]))
            self.assertIs(is_walk(script, rows, [(place, 4)] + self.singles(script, rows, place)[further:]), False)
            self.assertIs(is_walk(script, rows, [(place, 2), (there, 2)]), True)
            self.assertIs(is_walk(script, rows, [(place, 4)]), False)

    def singles(self, script, rows, place):
        """The walk of a loop that goes round by round."""
        told = [(place, 1)]
        while moved(script, rows, told[-1][0]) != place:
            told.append((moved(script, rows, told[-1][0]), 1))
        return told

    def test_many_rounds_at_one_place(self):
        about = Script(3, [("about",)])
        for rows in (1, 4, 5, FAR[0]):
            place = (rows // 2, 1)
            for many in (2, 4, 10 ** 40):
                self.assertIs(is_walk(about, rows, [(place, many)]), True)
                self.assertEqual(along(about, rows, [(place, many)], 2 * 10 ** 39), place)
            self.assertIs(is_walk(about, rows, [(place, 3)]), False)
            self.assertIs(is_walk(about, rows, [(place, 1)]), rows % 2 == 1)

    def test_one_thing_otherwise(self):
        for script in DRAWN[::4] + TURNING:
            for rows in (3, 8, FAR[0]):
                told = walk(script, rows, (rows // 2, 1))[:60]
                whole = walk(script, rows, (rows // 2, 1))
                rest = whole[len(told):]
                for index, (place, many) in enumerate(told):
                    ahead, behind_it = told[:index], told[index + 1:] + rest
                    changed = [(place, many + 1), (place, many + turn_of(script)), (place, many - 1), (place, 0),
                               (place, -many), (place, str(many)), (place, None), (place,), (place, many, 0),
                               [place, many],
                               (list(place), many), (many, place), place + (many,), ((place[0], place[1] + 3), many),
                               ((place[0] + rows, place[1]), many), ((place[0],), many), None]
                    if many == 1:
                        changed.append((place, True))
                    for thing in changed:
                        thing = ahead + [thing] + behind_it
                        self.assertIs(is_walk(script, rows, thing), self.by_steps(script, rows, thing), thing)
                if len(whole) > 2:
                    self.assertIs(is_walk(script, rows, whole[:-1]), False)
                    self.assertIs(is_walk(script, rows, whole + whole[:1]), self.by_steps(
                        script, rows, whole + whole[:1]))
                    self.assertIs(is_walk(script, rows, whole[1:] + whole[:1]), True)
                self.assertIs(is_walk(script, rows, whole * 2), True)
                self.assertIs(is_walk(script, rows, tuple(whole)), False)

    def by_steps(self, script, rows, thing):
        """Whether a list is a walk, step by step."""
        for item in thing:
            if not (type(item) is tuple and len(item) == 2 and type(item[0]) is tuple and type(item[1]) is int):
                return False
            place, many = item
            if many < 1 or len(place) != 2 or not (0 <= place[0] < rows and 0 <= place[1] < script.files):
                return False
        return all(keeps_to(script, rows, place, many, thing[(index + 1) % len(thing)][0])
                   for index, (place, many) in enumerate(thing))

    def test_any_value(self):
        for script in (Script(2, []), Script(3, [("all", 1), ("front", 0, 1)])):
            for rows in (1, 4, FAR[0]):
                for thing in any_values() + near_places(script.files, rows):
                    if type(thing) is int:
                        continue
                    for value in (thing, [thing], [(thing, 1)], [((0, 0), thing)], [((0, thing), 1)]):
                        self.assertIs(is_walk(script, rows, value), False, value)

    def test_the_thing_is_not_changed(self):
        script = Script(2, [("up", 0, 1), ("wheel", 0, 1, 1)])
        told = walk(script, FAR[0], (0, 0))
        before = list(told)
        for _ in range(2):
            is_walk(script, FAR[0], told)
            along(script, FAR[0], told, 10 ** 30)
            self.assertEqual(told, before)

    def test_the_examples(self):
        go = Script(2, [("up", 0, 1), ("wheel", 0, 1, 1)])
        far = 10 ** 30
        self.assertEqual([behind(go, far, (far - 1, 0), 10 ** 29),
                          mates(Script(2, [("up", 0, 1)]), far, 0, 10 ** 29)],
                         [(799999999999999999999999999999, 0), [1800000000000000000000000000001]])
        self.assertIs(is_walk(go, far, walk(go, far, (0, 0))), True)
        self.assertEqual(number_of(2, behind(go, far, (0, 0), 0)), 0)


if __name__ == "__main__":
    unittest.main()
