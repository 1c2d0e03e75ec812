"""Which arrangements calls lead to, and by how few of them [82]."""

import random
import unittest

from pupilpairs.errors import NoArrangement
from pupilpairs.seek import arranged, bounds, is_bound, levels, seek
from tests.helpers import OPEN, STRAIGHT, all_places, any_values, drawn_call, kinds_of_calls, model_call, raised

LINES = ((2, 1), (2, 2), (2, 3), (3, 1), (3, 2))
GREAT = (("all", 10 ** 40 - 1), ("up", 1, -10 ** 39), ("wheel", 0, 1, 10 ** 39 + 1))


def step_of(call, files, rows):
    """The list of the numbers of the places to which a call brings from the places 0, 1, .. ."""
    if call in GREAT:
        # Gone through step by step, these would take too long; as often as this, all is as at first.
        call = call[:-1] + (call[-1] % (2 * rows) or 2 * rows,)
    leads = model_call(call, files, rows)
    return [leads[place][0] * files + leads[place][1] for place in all_places(files, rows)]


def moved_on(arrangement, step):
    """The arrangement behind a step."""
    behind = [None] * len(arrangement)
    for pupil, number in zip(arrangement, step):
        behind[number] = pupil
    return tuple(behind)


def least_lists(files, rows, calls):
    """The dict from each arrangement to the least of the shortest lists of indexes, by a search by levels."""
    steps = [step_of(call, files, rows) for call in calls]
    told = {}
    level = {tuple(range(files * rows)): []}
    while level:
        told.update(level)
        further = {}
        for arrangement, indexes in level.items():
            for index, step in enumerate(steps):
                behind = moved_on(arrangement, step)
                if behind not in told:
                    further[behind] = min(further.get(behind, [len(calls)]), indexes + [index])
        level = further
    return told


def drawn_calls(draw, files, most):
    """A list of at most so many calls, none twice."""
    calls = [drawn_call(draw, files, STRAIGHT + OPEN, 5) for _ in range(draw.randint(0, most))]
    if draw.random() < 0.2:
        calls.append(draw.choice(GREAT))
    return list(dict.fromkeys(calls))[:6]


def some_calls():
    """Lines and lists of calls, the same each time."""
    draw = random.Random(820)
    told = [(files, rows, drawn_calls(draw, files, 6)) for files, rows in LINES for _ in range(12)]
    for files, rows in LINES:
        told += [(files, rows, []), (files, rows, [("about",)]), (files, rows, [("up", 0, 1), ("swap", 0, 1)]),
                 (files, rows, [("front", 0, 1), ("all", 2), ("wheel", 0, 1, 1)]),
                 (files, rows, [("halve",), ("others",), ("up", 0, 2 * rows)])]
    return told


class ArrangedTest(unittest.TestCase):
    def test_each_kind_of_call(self):
        for files, rows in LINES:
            for call in kinds_of_calls(files, 1) + kinds_of_calls(files, -2):
                step = step_of(call, files, rows)
                first = moved_on(range(files * rows), step)
                self.assertEqual(arranged(files, rows, [call]), first)
                self.assertEqual(arranged(files, rows, [call] * 3), moved_on(moved_on(first, step), step))

    def test_no_to_sixty_calls(self):
        draw = random.Random(821)
        for files, rows in LINES:
            for many in (0, 1, 2, 5, 12, 13, 59, 60):
                calls = [drawn_call(draw, files, STRAIGHT + OPEN, 9) for _ in range(many)]
                calls = [draw.choice(calls[:5] + list(GREAT)) if draw.random() < 0.3 else call for call in calls]
                expected = tuple(range(files * rows))
                for call in calls:
                    expected = moved_on(expected, step_of(call, files, rows))
                kept = list(calls)
                self.assertEqual(arranged(files, rows, calls), expected)
                self.assertEqual(arranged(files, rows, calls), expected)
                self.assertIs(type(arranged(files, rows, calls)), tuple)
                self.assertEqual(calls, kept)


class SeekTest(unittest.TestCase):
    def test_against_a_search_by_levels(self):
        draw = random.Random(822)
        seen = {}
        for files, rows, calls in some_calls():
            lists = least_lists(files, rows, calls)
            lengths = [len(indexes) for indexes in lists.values()]
            expected = [lengths.count(length) for length in range(max(lengths) + 1)]
            self.assertEqual(levels(files, rows, calls), expected, (files, rows, calls))
            told = bounds(files, rows, calls)
            self.assertEqual(list(told.items()), [(one, len(lists[one])) for one in sorted(lists)])
            others = list(range(files * rows))
            for wished in draw.sample(sorted(lists), min(len(lists), 40)) + [tuple(others)]:
                told = seek(files, rows, calls, wished)
                self.assertEqual(told, lists[wished], (files, rows, calls, wished))
                self.assertEqual(arranged(files, rows, [calls[index] for index in told]), wished)
                seen[len(told)] = True
            for _ in range(10):
                draw.shuffle(others)
                self.assertEqual(seek(files, rows, calls, tuple(others)), lists.get(tuple(others)))
                seen[tuple(others) in lists] = True
        self.assertGreater(len(seen), 10)

    def test_without_calls(self):
        for files, rows in LINES:
            first = tuple(range(files * rows))
            self.assertEqual(seek(files, rows, [], first), [])
            self.assertIsNone(seek(files, rows, [], first[::-1]))
            self.assertEqual(levels(files, rows, []), [1])
            self.assertEqual(bounds(files, rows, []), {first: 0})

    def test_the_least_of_the_shortest(self):
        calls = [("swap", 1, 0), ("about",), ("front", 0, 1), ("front", 1, 0), ("swap", 0, 1)]
        self.assertEqual([seek(2, 1, calls, (1, 0)), seek(2, 1, calls[1:], (1, 0)), seek(2, 1, calls, (0, 1))],
                         [[0], [0], []])
        calls = [("up", 0, 1), ("up", 1, 1), ("all", -1)]
        self.assertEqual(seek(2, 3, calls, arranged(2, 3, [("all", 1)])), [0, 1])
        self.assertEqual(seek(2, 3, calls[::-1], arranged(2, 3, [("all", 1)])), [0, 0])
        self.assertEqual(seek(2, 3, [("all", 1), ("up", 1, -1)], arranged(2, 3, [("up", 0, 1)])), [0, 1])

    def test_no_arrangement(self):
        for files, rows in LINES:
            many = files * rows
            first = tuple(range(many))
            near = [list(first), first[1:], first + (many,), first[:-1] + (many,), first[:-1] + (0,), (0,) * many,
                    (-1,) + first[1:], (False,) + first[1:], (0, True) + first[2:], first[:-1] + (None,),
                    first[:-1] + (str(many - 1),), first[:-1] + ((many - 1,),), (first,), str(first), (),
                    first[:-1] + ([],), set(first), dict.fromkeys(first), range(many), 10 ** 40]
            for calls in ([], [("all", 1), ("swap", 0, 1)]):
                for thing in any_values() + near:
                    self.assertIs(raised(self, NoArrangement, seek, files, rows, calls, thing).thing, thing)

    def test_nothing_that_is_passed_is_changed_and_what_is_told_is_new(self):
        for files, rows, calls in some_calls()[::7]:
            kept = list(calls)
            wished = max(bounds(files, rows, calls))
            told = [levels(files, rows, calls), bounds(files, rows, calls), seek(files, rows, calls, wished)]
            copies = [list(told[0]), dict(told[1]), list(told[2])]
            told[0].append(1)
            told[1].clear()
            told[2].append(0)
            self.assertEqual([levels(files, rows, calls), bounds(files, rows, calls),
                              seek(files, rows, calls, wished)], copies)
            self.assertEqual(calls, kept)

    def test_the_examples(self):
        calls = [("up", 0, 1), ("swap", 0, 1)]
        self.assertEqual([arranged(2, 2, calls[:1]), seek(2, 2, calls, (1, 2, 3, 0)), seek(2, 2, calls, (1, 0, 2, 3)),
                          levels(2, 2, calls)], [(2, 1, 0, 3), [0, 1], None, [1, 2, 2, 2, 1]])


class IsBoundTest(unittest.TestCase):
    def test_told_bounds_and_such_with_lesser_numbers(self):
        draw = random.Random(823)
        for files, rows, calls in some_calls():
            told = bounds(files, rows, calls)
            kept = list(told.items())
            self.assertIs(is_bound(files, rows, calls, told), True)
            self.assertEqual(list(told.items()), kept)
            self.assertIs(is_bound(files, rows, calls, {one: number // 2 for one, number in told.items()}), True)
            self.assertIs(is_bound(files, rows, calls, {one: max(0, number - 1) for one, number in kept}), True)
            self.assertIs(is_bound(files, rows, calls, dict.fromkeys(told, 0)), True)
            mixed = list(kept)
            draw.shuffle(mixed)
            self.assertIs(is_bound(files, rows, calls, dict(mixed)), True)

    def expected(self, files, rows, calls, thing):
        """Whether a dict of arrangements to integers is a bound, by the words of the document."""
        if thing.get(tuple(range(files * rows))) != 0 or min(thing.values()) < 0:
            return False
        for call in calls:
            step = step_of(call, files, rows)
            for arrangement, number in thing.items():
                behind = moved_on(arrangement, step)
                if behind not in thing or thing[behind] > number + 1:
                    return False
        return True

    def test_one_number_otherwise_or_one_key_out(self):
        draw = random.Random(824)
        seen = []
        for files, rows, calls in some_calls():
            told = bounds(files, rows, calls)
            for one in draw.sample(sorted(told), min(len(told), 8)):
                for number in (0, told[one] + 1, told[one] + 2, told[one] - 1, told[one] - 2, -1):
                    changed = {**told, one: number}
                    expected = self.expected(files, rows, calls, changed)
                    seen.append(expected)
                    self.assertIs(is_bound(files, rows, calls, changed), expected, (files, rows, calls, one, number))
                without = {other: told[other] for other in told if other != one}
                self.assertIs(is_bound(files, rows, calls, without), False)
        self.assertGreater(seen.count(True), 50)
        self.assertGreater(seen.count(False), 50)

    def test_one_key_more(self):
        for files, rows, calls in some_calls():
            told = bounds(files, rows, calls)
            first = tuple(range(files * rows))
            more = {**told, first[::-1]: told.get(first[::-1], 0)}
            self.assertIs(is_bound(files, rows, calls, more), self.expected(files, rows, calls, more))
            for thing in (first[1:], first + (0,), (True,) + first[1:], "", 0, None, (0,) * len(first), (first,),
                          frozenset(first)):
                self.assertIs(is_bound(files, rows, calls, {**told, thing: 0}), False)

    def test_true_and_false(self):
        for files, rows, calls in some_calls():
            told = bounds(files, rows, calls)
            first = tuple(range(files * rows))
            self.assertIs(is_bound(files, rows, calls, {**told, first: False}), False)
            keyed = {(False, True) + one[2:] if one == first else one: told[one] for one in told}
            self.assertIs(is_bound(files, rows, calls, keyed), False)
            for one in told:
                if told[one] == 1:
                    self.assertIs(is_bound(files, rows, calls, {**told, one: True}), False)

    def test_all_arrangements_with_0(self):
        for files, rows, calls in some_calls():
            many = files * rows
            seen = [()]
            for _ in range(many):
                seen = [one + (pupil,) for one in seen for pupil in range(many) if pupil not in one]
            self.assertIs(is_bound(files, rows, calls, dict.fromkeys(seen, 0)), True)
            if len(seen) > 2 and calls:
                told = {one: 1 if one == seen[-1] else 0 for one in seen}
                self.assertIs(is_bound(files, rows, calls, told), True)

    def test_any_value(self):
        for files, rows, calls in ((2, 1, []), (2, 3, [("all", 1)]), (3, 2, [("halve",), ("swap", 0, 1)])):
            first = tuple(range(files * rows))
            for thing in any_values() + [first, [first], {first}, (first, 0), [(first, 0)], {0: first}, str({first: 0})]:
                self.assertIs(is_bound(files, rows, calls, thing), False)
                self.assertIs(is_bound(files, rows, calls, {first: thing}), False)
                self.assertIs(is_bound(files, rows, calls, {first: [thing]}), False)


if __name__ == "__main__":
    unittest.main()
