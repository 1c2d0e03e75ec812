"""The parity [42]."""

import unittest

from pupilpairs.lines import Line
from pupilpairs.parity import are_exchanges, exchanges, is_even, odd_on, parities
from pupilpairs.scripts import Script
from tests.helpers import FAR, OPEN, STRAIGHT, any_values, drawn_scripts, kinds_of_calls, model_loops, model_moves

DRAWN = drawn_scripts(420, 60, STRAIGHT + OPEN, 7, 16)


def turned_pairs(moves):
    """How many pairs of pupils stand the other way about behind moves."""
    return sum(moves[one] > moves[other] for other in range(len(moves)) for one in range(other))


def done_by(told, many):
    """The numbers of the places to which exchanges, one behind another, lead from the places 0, 1, .. ."""
    standing = list(range(many))
    for number, other in told:
        standing[number], standing[other] = standing[other], standing[number]
    return [standing.index(pupil) for pupil in range(many)]


class ParityTest(unittest.TestCase):
    def test_each_kind_of_call(self):
        for files in (2, 3):
            for k in (1, 2, -3, -4, 15, 16):
                for call in kinds_of_calls(files, k):
                    script = Script(files, [call])
                    for rows in (*range(1, 12), 16, 17, 18, 19, 20):
                        even = turned_pairs(model_moves(script, rows)) % 2 == 0
                        self.assertIs(is_even(script, rows), even, (call, rows))
                        self.assertIs(parities(script)[rows % 8], even, (call, rows))

    def test_drawn_scripts(self):
        for script in DRAWN:
            truths = [turned_pairs(model_moves(script, rows)) % 2 == 0 for rows in range(1, 13)]
            self.assertEqual([is_even(script, rows) for rows in range(1, 13)], truths)
            told = parities(script)
            self.assertEqual(len(told), 8)
            self.assertEqual([told[rows % 8] for rows in range(1, 13)], truths)
            self.assertTrue(all(type(truth) is bool for truth in told))
            odd = [rows for rows in range(1, 13) if not truths[rows - 1]]
            self.assertEqual(odd_on(script), odd[0] if odd else None)

    def test_far_lines(self):
        for script in DRAWN + [Script(files, [call]) for files in (2, 3) for call in kinds_of_calls(files, 7)]:
            for rows in (*FAR, *range(10 ** 30, 10 ** 30 + 8)):
                self.assertIs(is_even(script, rows), parities(script)[rows % 8])
                self.assertIs(is_even(script, rows), is_even(script, rows % 8 + 8))

    def test_huge_k(self):
        for k in (10 ** 39, 10 ** 39 + 1, -10 ** 39 - 1):
            for call in (("all", k), ("up", 1, k), ("wheel", 1, 0, k)):
                script = Script(3, [call])
                small = Script(3, [call[:-1] + (2 if k % 2 == 0 else 1,)])
                self.assertEqual(parities(script), parities(small))

    def test_all_odd_and_never_odd(self):
        self.assertIsNone(odd_on(Script(2, [])))
        self.assertEqual(parities(Script(3, [])), [True] * 8)
        self.assertEqual(odd_on(Script(2, [("front", 0, 1)])), 1)
        self.assertEqual(parities(Script(3, [("wheel", 2, 1, 3)])), [False] * 8)

    def test_products(self):
        for one, other in zip(DRAWN, DRAWN[1:]):
            if one.files == other.files:
                told = [first == second for first, second in zip(parities(one), parities(other))]
                self.assertEqual(parities(one * other), told)
                self.assertEqual(parities(~one), parities(one))

    def test_told_lists_are_new(self):
        script = Script(2, [("swap", 0, 1)])
        for function, arguments in ((parities, (script,)), (exchanges, (script, 3))):
            told = function(*arguments)
            kept = list(told)
            told.clear()
            self.assertEqual(function(*arguments), kept)

    def test_the_examples(self):
        up = Script(2, [("up", 0, 1)])
        self.assertEqual([is_even(Script(2, [("front", 0, 1)]), 10 ** 30), parities(Script(2, [("swap", 0, 1)]))[:3],
                          odd_on(up), odd_on(up.times(2))], [False, [True, False, True], 2, None])
        self.assertEqual(exchanges(Script(2, [("swap", 0, 1)]), 2), [(0, 1), (2, 3)])


class ExchangesTest(unittest.TestCase):
    def test_they_do_it_and_are_as_few_as_possible(self):
        for script in DRAWN:
            for rows in (1, 2, 3, 7, 12):
                moves = model_moves(script, rows)
                told = exchanges(script, rows)
                self.assertIs(type(told), list)
                self.assertEqual(done_by(told, len(moves)), moves)
                loops = len({min(loop) for loop in model_loops(moves)})
                self.assertEqual(len(told), len(moves) - loops)
                for exchange in told:
                    self.assertIs(type(exchange), tuple)
                    self.assertEqual(len(set(exchange)), 2)
                self.assertIs(are_exchanges(script, rows, told), True)
                self.assertEqual(len(told) % 2 == 0, is_even(script, rows))

    def test_the_longest_line(self):
        for script in DRAWN[:8]:
            told = exchanges(script, 400)
            line = Line(script.files, 400)
            line.do(script)
            order = list(range(len(line)))
            for number, other in told:
                order[number], order[other] = order[other], order[number]
            self.assertEqual(order, line.order())
            self.assertIs(are_exchanges(script, 400, told), True)
            self.assertIs(are_exchanges(script, 400, told + [(0, 1)]), False)

    def test_lists_with_one_thing_otherwise(self):
        scripts = [Script(2, [("all", 1)]), Script(3, [("wheel", 0, 2, 1), ("halve",)]), Script(2, [("front", 0, 1)])]
        for script in scripts + DRAWN[:10]:
            rows = 4
            many = script.files * rows
            told = exchanges(script, rows)
            for at, (number, other) in enumerate(told):
                ahead, behind = told[:at], told[at + 1:]
                self.assertIs(are_exchanges(script, rows, ahead + [(other, number)] + behind), True)
                free = [one for one in range(many) if one not in (number, other)][0]
                wrong = [behind, [(number, other)] * 2 + behind, [(number, free)] + behind, [(free, other)] + behind,
                         [[number, other]] + behind, [(number, other, 0)] + behind, [(number,)] + behind,
                         [(number, number)] + behind, [None] + behind, [(number, other + many)] + behind,
                         [(number - many, other)] + behind, [(number, str(other))] + behind, [number, other] + behind]
                for part in (0, 1):
                    if (number, other)[part] in (0, 1):
                        exchange = [number, other]
                        exchange[part] = bool(exchange[part])
                        wrong.append([tuple(exchange)] + behind)
                for thing in wrong:
                    self.assertIs(are_exchanges(script, rows, ahead + thing), False, thing)
                more = ahead + [(free, other), (other, free)] + told[at:]
                self.assertIs(are_exchanges(script, rows, more), True)
            self.assertIs(are_exchanges(script, rows, tuple(told)), False)
            self.assertIs(are_exchanges(script, rows, told + [(0, 1), (1, 0)]), True)
            self.assertIs(are_exchanges(script, rows, told + [(0, 1)]), False)
            self.assertIs(are_exchanges(script, rows, told + [(many - 1, many)]), False)
            self.assertIs(are_exchanges(script, rows, told + [(0, -1)] * 2), False)
            self.assertIs(are_exchanges(script, rows, told + [(0, True)] * 2), False)
            self.assertIs(are_exchanges(script, rows, told + [(0, 0)]), False)

    def test_nothing(self):
        for files in (2, 3):
            for rows in (1, 5):
                self.assertEqual(exchanges(Script(files, []), rows), [])
                self.assertIs(are_exchanges(Script(files, []), rows, []), True)
                self.assertIs(are_exchanges(Script(files, [("front", 0, 1)]), rows, []), False)
                self.assertIs(are_exchanges(Script(files, []), rows, [(0, 1)] * 4), True)

    def test_any_value(self):
        for script in (Script(2, []), Script(3, [("all", 1), ("halve",)])):
            for rows in (1, 3, 400):
                for thing in any_values():
                    expected = type(thing) is list and thing == exchanges(script, rows) == []
                    self.assertIs(are_exchanges(script, rows, thing), expected)
                    self.assertIs(are_exchanges(script, rows, [thing]), False)
                    self.assertIs(are_exchanges(script, rows, [(0, thing)]), False)
                    self.assertIs(are_exchanges(script, rows, [(thing, 0)]), False)

    def test_the_thing_is_not_changed(self):
        script = Script(2, [("all", 1)])
        thing = exchanges(script, 4)
        kept = list(thing)
        for _ in range(2):
            self.assertIs(are_exchanges(script, 4, thing), True)
            self.assertEqual(thing, kept)


if __name__ == "__main__":
    unittest.main()
