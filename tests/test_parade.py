"""Lines of pupils led call by call [92]."""

import copy
import random
import unittest

from pupilpairs.errors import Away, Full, NoCall, NoPupil, Nothing, There, Wrong
from pupilpairs.parade import Parade
from pupilpairs.scripts import Script
from tests.helpers import (
    OPEN, STRAIGHT, all_places, any_values, drawn_call, kinds_of_calls, model_call, near_pupils, raised,
)


class Model:
    """A parade that is moved place by place."""

    def __init__(self, files, rows):
        self.files = files
        self.rows = rows
        self.orders = [list(range(files * rows))]
        self.calls = []
        self.undone = []
        self.gone = set()

    def behind(self, order, call):
        """The pupils by the numbers of their places behind a call."""
        leads = model_call(call, self.files, self.rows)
        behind = [None] * len(order)
        for place, pupil in zip(all_places(self.files, self.rows), order):
            row, file = leads[place]
            behind[row * self.files + file] = pupil
        return behind

    def do(self, call):
        """Does a call."""
        self.orders.append(self.behind(self.orders[-1], call))
        self.calls.append(call)

    def back(self):
        """Undoes the last call."""
        self.orders.pop()
        self.undone.append(self.calls.pop())

    def lines(self, order):
        """The rows of pupils, None for those who are away."""
        told = [None if pupil in self.gone else pupil for pupil in order]
        return [told[row * self.files:(row + 1) * self.files] for row in range(self.rows)]

    def row_of(self, order, pupil):
        """The others in the row of a pupil."""
        row = order.index(pupil) // self.files
        return [other for other in order[row * self.files:(row + 1) * self.files] if other != pupil]


def bad_calls(files):
    """Values that are nearly calls of a parade of so many files."""
    return [("up", files, 1), ("swap", 0, files), ("swap", 0, 0), ("wheel", files, 0, 1), ("front", -1, 0), ("all", 0),
            ("all", True), ["all", 1], [("all", 1)], (("all", 1),), "all 1", ("about", 1), 0, 1, ("all", 17),
            ("all", -17), ("up", 0, 17), ("up", 1, -17), ("wheel", 0, 1, 17), ("wheel", 1, 0, -17), ("all", 10 ** 40),
            Parade(files, 2), Script(files, [("all", 1)]), Script(files, [])]


class ParadeCase(unittest.TestCase):
    def check(self, parade, model, pupils):
        """Asserts all that a parade tells of its line and of some of its pupils."""
        files, rows = model.files, model.rows
        many = files * rows
        order = model.orders[-1]
        self.assertEqual([parade.files, parade.rows, len(parade)], [files, rows, many - len(model.gone)])
        self.assertEqual(parade.done(), model.calls)
        self.assertEqual(parade.line(), model.lines(order))
        self.assertEqual(parade.away(), sorted(model.gone))
        self.assertIs(parade.is_home(), order == sorted(order))
        for pupil in pupils:
            self.assertEqual(parade.place_of(pupil), divmod(order.index(pupil), files))
            beside = model.row_of(order, pupil)
            self.assertEqual(parade.mates(pupil), sorted(set(beside) - model.gone))
            seen = {other for state in model.orders for other in model.row_of(state, pupil)}
            self.assertEqual(parade.met(pupil), sorted(seen))

    def told(self, parade):
        """A copy of all that a parade tells."""
        pupils = range(parade.files * parade.rows)
        return copy.deepcopy((parade.files, parade.rows, len(parade), parade.done(), parade.line(), parade.away(),
                              [(parade.place_of(pupil), parade.mates(pupil), parade.met(pupil)) for pupil in pupils]))


class MakingTest(ParadeCase):
    def test_all_stand_as_at_first(self):
        for files in (2, 3):
            for rows in (1, 2, 99, 100):
                self.check(Parade(files, rows), Model(files, rows), range(0, files * rows, 7))

    def test_files_and_rows_are_properties(self):
        for name in ("files", "rows"):
            self.assertIsInstance(vars(Parade)[name], property)
            with self.assertRaises(AttributeError):
                setattr(Parade(2, 2), name, 3)

    def test_wrong_files(self):
        for files in any_values() + [0, 1, 4, -2, 10 ** 40]:
            for rows in (1, 0, 101, True, None, files):
                self.assertEqual(raised(self, Wrong, Parade, files, rows).place, 0)

    def test_wrong_rows(self):
        for files in (2, 3):
            for rows in any_values() + [0, -1, 101, 400, 10 ** 40, (1,), "1"]:
                self.assertEqual(raised(self, Wrong, Parade, files, rows).place, 1)


class DeedsTest(ParadeCase):
    def deed(self, draw, parade, model):
        """Does one drawn deed to a parade and its model."""
        pupil = draw.randrange(model.files * model.rows)
        call = drawn_call(draw, model.files, STRAIGHT + OPEN, 16)
        word = draw.choice(["do", "do", "do", "back", "back", "again", "again", "leave", "leave", "come", "trial"])
        if word == "do":
            self.assertIsNone(parade.do(call))
            model.do(call)
            model.undone = []
        elif word == "back" and model.calls:
            self.assertEqual(parade.back(), model.calls[-1])
            model.back()
        elif word == "again" and model.undone:
            self.assertEqual(parade.again(), model.undone[-1])
            model.do(model.undone.pop())
        elif word in ("back", "again"):
            raised(self, Nothing, parade.back if word == "back" else parade.again)
        elif word == "leave":
            if pupil in model.gone:
                self.assertEqual(raised(self, Away, parade.leave, pupil).pupil, pupil)
            else:
                self.assertIsNone(parade.leave(pupil))
            model.gone.add(pupil)
        elif word == "come":
            if pupil not in model.gone:
                self.assertEqual(raised(self, There, parade.come, pupil).pupil, pupil)
            else:
                self.assertIsNone(parade.come(pupil))
            model.gone.discard(pupil)
        else:
            calls = [call, ("halve",), call][:draw.randrange(4)]
            order = model.orders[-1]
            for one in calls:
                order = model.behind(order, one)
            self.assertEqual(parade.trial(calls), model.lines(order))

    def test_deeds_by_turns(self):
        draw = random.Random(920)
        for files in (2, 3):
            for rows, many in ((1, 60), (2, 80), (3, 80), (5, 60), (12, 40), (100, 12)):
                parade, model = Parade(files, rows), Model(files, rows)
                for _ in range(many):
                    self.deed(draw, parade, model)
                    pupils = range(files * rows)
                    self.check(parade, model, pupils if rows < 4 else draw.sample(pupils, 5))

    def test_two_parades_by_turns(self):
        draw = random.Random(921)
        both = [(Parade(files, 3), Model(files, 3)) for files in (2, 3, 2)]
        for _ in range(120):
            self.deed(draw, *draw.choice(both))
            for parade, model in both:
                self.check(parade, model, (0, 5))

    def test_each_kind_of_call(self):
        for files in (2, 3):
            for rows in (1, 4, 7):
                for k in (1, -3, 16, -16):
                    parade, model = Parade(files, rows), Model(files, rows)
                    for call in kinds_of_calls(files, k):
                        parade.do(call)
                        model.do(call)
                    self.check(parade, model, range(files * rows))

    def test_back_and_again(self):
        parade = Parade(2, 3)
        calls = [("up", 0, 1), ("halve",), ("wheel", 1, 0, 2)]
        for call in calls:
            parade.do(call)
        raised(self, Nothing, parade.again)
        told = self.told(parade)
        self.assertEqual([parade.back(), parade.back()], calls[:0:-1])
        self.assertEqual(parade.done(), calls[:1])
        self.assertEqual([parade.again(), parade.again()], calls[1:])
        self.assertEqual(self.told(parade), told)
        raised(self, Nothing, parade.again)
        self.assertEqual([parade.back(), parade.back(), parade.back()], calls[::-1])
        raised(self, Nothing, parade.back)
        self.assertEqual(self.told(parade), self.told(Parade(2, 3)))
        self.assertEqual(parade.again(), calls[0])
        parade.do(("about",))
        # What was undone is gone as soon as another call is done.
        raised(self, Nothing, parade.again)
        self.assertEqual(parade.back(), ("about",))
        self.assertEqual([parade.again(), parade.done()], [("about",), [calls[0], ("about",)]])

    def test_calls_that_are_undone_leave_no_meeting(self):
        parade = Parade(2, 3)
        parade.do(("up", 0, 1))
        self.assertEqual(parade.met(0), [1, 5])
        parade.back()
        self.assertEqual(parade.met(0), [1])
        parade.do(("up", 0, 2))
        self.assertEqual(parade.met(0), [1, 3])
        parade.leave(3)
        self.assertEqual([parade.met(0), parade.mates(0), parade.met(3), parade.mates(3)], [[1, 3], [], [0, 2], [0]])
        parade.leave(0)
        self.assertEqual([parade.met(0), parade.met(3), parade.mates(3), parade.line()],
                         [[1, 3], [0, 2], [], [[4, 1], [None, None], [2, 5]]])

    def test_back_and_again_change_nothing_of_who_is_away(self):
        parade = Parade(3, 2)
        parade.do(("all", 1))
        parade.leave(4)
        parade.back()
        self.assertEqual([parade.away(), len(parade), parade.line()], [[4], 5, [[0, 1, 2], [3, None, 5]]])
        parade.come(4)
        parade.leave(0)
        parade.again()
        self.assertEqual([parade.away(), len(parade), parade.line()], [[0], 5, [[3, 4, 5], [None, 1, 2]]])

    def test_all_away(self):
        parade = Parade(2, 2)
        for pupil in (2, 0, 3, 1):
            parade.leave(pupil)
        parade.do(("halve",))
        self.assertEqual([len(parade), parade.away(), parade.line()], [0, [0, 1, 2, 3], [[None, None], [None, None]]])
        self.assertEqual([parade.place_of(1), parade.mates(1), parade.met(1)], [(1, 0), [], [0, 3]])

    def test_the_examples(self):
        parade = Parade(2, 2)
        parade.do(("up", 0, 1))
        parade.leave(3)
        self.assertEqual([parade.line(), parade.place_of(0), parade.mates(0), parade.met(0), len(parade),
                          parade.trial([("swap", 0, 1)])],
                         [[[2, 1], [0, None]], (1, 0), [], [1, 3], 3, [[1, 2], [None, 0]]])


class FullTest(ParadeCase):
    def test_two_hundred_calls(self):
        for files in (2, 3):
            parade, model = Parade(files, 5), Model(files, 5)
            kinds = kinds_of_calls(files, 2)
            for at in range(200):
                parade.do(kinds[at % len(kinds)])
                model.do(kinds[at % len(kinds)])
            for call in (("all", 1), ("about",), kinds[0]):
                self.assertEqual(raised(self, Full, parade.do, call).limit, 200)
            self.check(parade, model, range(files * 5))
            for thing in bad_calls(files) + any_values():
                self.assertIs(raised(self, NoCall, parade.do, thing).thing, thing)
            self.assertEqual(parade.trial([]), parade.line())
            self.assertEqual(parade.trial([("about",)] * 201), model.lines(model.orders[-1][::-1]))
            self.assertEqual(parade.back(), model.calls[-1])
            self.assertEqual(parade.again(), model.calls[-1])
            raised(self, Full, parade.do, ("all", 1))
            parade.back()
            model.back()
            parade.do(("all", 16))
            model.do(("all", 16))
            raised(self, Full, parade.do, ("all", 1))
            self.check(parade, model, range(files * 5))

    def test_full_leaves_what_was_undone(self):
        parade = Parade(2, 1)
        for _ in range(200):
            parade.do(("swap", 0, 1))
        parade.back()
        parade.again()
        raised(self, Full, parade.do, ("about",))
        self.assertEqual([parade.back() for _ in range(200)], [("swap", 0, 1)] * 200)
        self.assertEqual([parade.again() for _ in range(200)], [("swap", 0, 1)] * 200)
        raised(self, Nothing, parade.again)


class TrialTest(ParadeCase):
    def test_trials(self):
        draw = random.Random(922)
        for files in (2, 3):
            for rows in (1, 4, 30):
                parade, model = Parade(files, rows), Model(files, rows)
                for call in (("up", 1, 1), ("halve",)):
                    parade.do(call)
                    model.do(call)
                parade.leave(1)
                model.gone.add(1)
                for many in (0, 1, 8, 201):
                    calls = [drawn_call(draw, files, STRAIGHT + OPEN, 16) for _ in range(many)]
                    kept = list(calls)
                    order = model.orders[-1]
                    for call in calls:
                        order = model.behind(order, call)
                    self.assertEqual(parade.trial(calls), model.lines(order))
                    self.assertEqual(calls, kept)
                    self.check(parade, model, (0, 1))

    def test_values_that_are_no_calls(self):
        good = ("all", 1)
        for files in (2, 3):
            parade = Parade(files, 2)
            for thing in bad_calls(files) + any_values():
                for calls in ([thing], [good, thing, None], [good] * 8 + [thing, thing], [thing, ("all", 0)]):
                    self.assertIs(raised(self, NoCall, parade.trial, calls).thing, thing)
            for thing in any_values() + bad_calls(files) + [(good,), (), good, {0: good}]:
                if not isinstance(thing, list):
                    self.assertIs(raised(self, NoCall, parade.trial, thing).thing, thing)


class ErrorsTest(ParadeCase):
    def parades(self):
        """Parades that were led and can be led again, with those who are away."""
        for files, rows in ((2, 1), (2, 3), (3, 2)):
            parade = Parade(files, rows)
            for call in (("up", 0, 1), ("halve",), ("about",)):
                parade.do(call)
            parade.back()
            parade.leave(1)
            yield parade

    def check_unchanged(self, parade, told):
        """Asserts that a parade tells the same, and that what was undone can be done again."""
        self.assertEqual(self.told(parade), told)
        self.assertEqual([parade.again(), parade.back()], [("about",), ("about",)])

    def test_no_call(self):
        for parade in self.parades():
            told = self.told(parade)
            for thing in bad_calls(parade.files) + any_values():
                self.assertIs(raised(self, NoCall, parade.do, thing).thing, thing)
                raised(self, NoCall, parade.trial, [("all", 1), thing])
            parade.trial([("all", 1), ("fill",)])
            self.check_unchanged(parade, told)

    def test_sizes(self):
        for size in (1, 15, 16, -16):
            Parade(2, 3).do(("wheel", 0, 1, size))
            Parade(2, 3).trial([("all", size), ("up", 1, size)])
        for size in (17, -17, 10 ** 39):
            for call in (("all", size), ("up", 0, size), ("wheel", 1, 0, size)):
                self.assertIs(raised(self, NoCall, Parade(2, 3).do, call).thing, call)
                self.assertIs(raised(self, NoCall, Parade(2, 3).trial, [call]).thing, call)

    def test_no_pupil(self):
        for parade in self.parades():
            told = self.told(parade)
            for thing in any_values() + near_pupils(parade.files, parade.rows):
                for ask in (parade.leave, parade.come, parade.place_of, parade.mates, parade.met):
                    self.assertIs(raised(self, NoPupil, ask, thing).pupil, thing)
            self.check_unchanged(parade, told)

    def test_away_and_there(self):
        for parade in self.parades():
            told = self.told(parade)
            self.assertEqual(raised(self, Away, parade.leave, 1).pupil, 1)
            self.assertEqual(raised(self, There, parade.come, 0).pupil, 0)
            self.check_unchanged(parade, told)
            parade.come(1)
            self.assertEqual(raised(self, There, parade.come, 1).pupil, 1)
            parade.leave(0)
            self.assertEqual(raised(self, Away, parade.leave, 0).pupil, 0)

    def test_nothing(self):
        parade = Parade(2, 2)
        for _ in range(2):
            raised(self, Nothing, parade.back)
            raised(self, Nothing, parade.again)
        self.assertEqual(self.told(parade), self.told(Parade(2, 2)))

    def test_told_lists_are_new(self):
        for parade in self.parades():
            told = self.told(parade)
            for one in (parade.done(), parade.line(), parade.away(), parade.mates(0), parade.met(0), parade.trial([])):
                one.append(7)
            for rows in (parade.line(), parade.trial([])):
                rows[0].clear()
            self.check_unchanged(parade, told)
            kept = parade.done()
            parade.do(("all", 1))
            self.assertEqual(kept, told[3])


if __name__ == "__main__":
    unittest.main()
