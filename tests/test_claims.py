"""On which lines claims hold [70], [9]."""

import random
import unittest

from pupilpairs.claims import answer, answer_all, breaking, holds, is_claim
from pupilpairs.corners import behind
from pupilpairs.errors import NoClaim, Open
from pupilpairs.scripts import Script
from tests.helpers import FAR, any_values, drawn_scripts, model_script, open_scripts, raised

DRAWN = drawn_scripts(700, 40, many=6, size=8) + drawn_scripts(701, 30, many=3, size=3) + [
    Script(2, []), Script(3, []), Script(2, [("front", 0, 1)]), Script(3, [("about",)]), Script(2, [("up", 0, 16)]),
    Script(3, [("wheel", 0, 2, 1), ("up", 1, 1)]),
]
MOST = 82


def drawn_claim(draw, script, greatest=30):
    """A claim about a script, whose rounds are of at most such a size."""
    def spot():
        return (draw.choice(["front", "back"]), draw.choice([0, 0, 1, 2, draw.randint(0, 9)]),
                draw.randrange(script.files))
    most = greatest // max(1, script.size)
    k = draw.choice([0, 1, -1, draw.randint(-most, most)])
    word = draw.choice(["at", "at", "beside", "leads"])
    return (word, k, spot()) if word == "leads" else (word, k, spot(), spot())


def spot_on(rows, spot):
    """The place of a spot on a line, or None."""
    end, row, file = spot
    if row >= rows:
        return None
    return (row if end == "front" else rows - 1 - row, file)


class Lines:
    """The short lines of a script, gone through place by place by the model."""

    def __init__(self, script):
        self.script = script
        self.steps = {}

    def behind(self, rows, place, rounds):
        """The place behind rounds."""
        for way, once in ((1, self.script), (-1, ~self.script)):
            if (rows, way) not in self.steps:
                self.steps[rows, way] = model_script(once.files, once.calls(), rows)
        for _ in range(abs(rounds)):
            place = self.steps[rows, 1 if rounds > 0 else -1][place]
        return place

    def holds(self, rows, claim):
        """Whether a claim holds, None where the line lacks a spot."""
        places = [spot_on(rows, spot) for spot in claim[2:]]
        if None in places:
            return None
        ends = [self.behind(rows, place, claim[1]) for place in places]
        if claim[0] == "at":
            return ends[0] == places[1]
        return ends[0][0] == (ends[1][0] if claim[0] == "beside" else 0)


def answer_of(truths):
    """The answer to what holds on the lines from one row on, where it goes on as on the last."""
    later = truths[-1]
    first = max([rows for rows in range(2, len(truths) + 1) if truths[rows - 2] != later], default=1)
    return ([rows for rows in range(1, first) if truths[rows - 1]], first, later)


class HoldsTest(unittest.TestCase):
    def test_short_lines_place_by_place(self):
        draw = random.Random(702)
        seen = {}
        for script in DRAWN:
            lines = Lines(script)
            for _ in range(6):
                claim = drawn_claim(draw, script)
                truths = []
                for rows in (*range(1, 13), 20, 41):
                    expected = lines.holds(rows, claim)
                    told = holds(script, rows, claim)
                    self.assertIs(told, expected is True, (script.calls(), rows, claim))
                    truths.append(told)
                seen[claim[0], any(truths), all(truths)] = True
        self.assertGreaterEqual(len(seen), 8)

    def test_far_lines_by_behind(self):
        draw = random.Random(703)
        for script in DRAWN:
            for _ in range(4):
                claim = drawn_claim(draw, script, 90)
                for rows in FAR[:2]:
                    places = [spot_on(rows, spot) for spot in claim[2:]]
                    ends = [behind(script, rows, place, claim[1]) for place in places]
                    expected = ends[0][0] == 0
                    if claim[0] == "at":
                        expected = ends[0] == places[1]
                    elif claim[0] == "beside":
                        expected = ends[0][0] == ends[1][0]
                    self.assertIs(holds(script, rows, claim), expected)

    def test_what_is_said_of_those_who_stood_there_holds(self):
        for script in DRAWN:
            for rows in (12, 30):
                for spot in (("front", 0, 0), ("back", 3, 1)):
                    row, file = behind(script, rows, spot_on(rows, spot), 2)
                    if row < 10:
                        self.assertIs(holds(script, rows, ("at", 2, spot, ("front", row, file))), True)
                        self.assertIs(holds(script, rows, ("at", -2, ("front", row, file), spot)), True)
                    self.assertIs(holds(script, rows, ("beside", 2, spot, spot)), True)
                    self.assertIs(holds(script, rows, ("leads", 2, spot)), row == 0)

    def test_lines_that_lack_a_spot(self):
        for script in DRAWN[:6] + [Script(2, [])]:
            for row in range(10):
                for end in ("front", "back"):
                    spot = (end, row, 0)
                    for rows in range(1, 12):
                        self.assertIs(holds(script, rows, ("beside", 1, spot, spot)), rows > row)
                        self.assertIs(holds(script, rows, ("at", 0, spot, spot)), rows > row)
                        if rows <= row:
                            for claim in (("at", 1, spot, ("front", 0, 0)), ("at", 1, ("front", 0, 0), spot),
                                          ("beside", 0, ("back", 0, 1), spot), ("leads", 1, spot)):
                                self.assertIs(holds(script, rows, claim), False)

    def test_both_names_of_a_place(self):
        for rows in range(1, 11):
            for row in range(rows):
                claim = ("at", 0, ("front", row, 1), ("back", rows - 1 - row, 1))
                self.assertIs(holds(Script(2, [("all", 3)]), rows, claim), True)
                self.assertIs(holds(Script(2, [("all", 3)]), rows + 1, claim), False)
                self.assertEqual(answer(Script(2, []), claim), ([rows], rows + 1, False))
                least = max(row, rows - 1 - row) + 1
                self.assertEqual(breaking(Script(2, []), claim), least if least < rows else rows + 1)

    def test_rounds_of_a_script_without_calls(self):
        nothing = Script(3, [])
        spot, other = ("front", 2, 1), ("back", 0, 2)
        for k in (0, 91, -91, 10 ** 40 - 1, -10 ** 40 + 1):
            self.assertIs(is_claim(nothing, ("leads", k, spot)), True)
            self.assertIs(holds(nothing, 3, ("beside", k, spot, other)), True)
            self.assertIs(holds(nothing, 10 ** 40 - 1, ("at", k, spot, spot)), True)
            self.assertEqual(answer(nothing, ("beside", k, spot, other)), ([3], 4, False))
            self.assertEqual(breaking(nothing, ("at", k, spot, spot)), None)


class AnswerTest(unittest.TestCase):
    def test_answers_by_all_lines(self):
        draw = random.Random(704)
        seen = {}
        for script in DRAWN:
            lines = Lines(script)
            for _ in range(5):
                claim = drawn_claim(draw, script, 24)
                truths = [lines.holds(rows, claim) for rows in range(1, MOST + 1)]
                early, first, later = told = answer(script, claim)
                self.assertEqual(told, answer_of([truth is True for truth in truths]), (script.calls(), claim))
                self.assertEqual([type(told), type(early), type(later)], [tuple, list, bool])
                broken = [rows for rows in range(1, MOST + 1) if truths[rows - 1] is False]
                self.assertEqual(breaking(script, claim), broken[0] if broken else None)
                for rows in FAR[:2]:
                    self.assertIs(holds(script, rows, claim), later)
                seen[bool(early), first == 1, later] = True
        # Some hold nowhere, some everywhere, some on early lines only, some on all but some.
        self.assertGreaterEqual(len(seen), 4)

    def test_claims_of_each_kind(self):
        script = Script(2, [("all", 2), ("front", 0, 1), ("all", -1), ("front", 0, 1), ("all", -1)])
        stays = ("at", 1, ("front", 0, 0), ("front", 0, 0))
        for claim, told, broken in (
                (stays, ([1], 3, True), 2), (("at", 2) + stays[2:], ([], 1, True), None),
                (("at", 1, ("front", 1, 0), ("front", 1, 0)), ([], 1, False), 2),
                (("at", 1, ("front", 1, 0), ("front", 1, 1)), ([], 2, True), None),
                (("at", 1, ("front", 1, 0), ("back", 1, 1)), ([3], 4, False), 2),
                (("leads", 3, ("back", 0, 1)), ([1], 2, False), 2),
                (("leads", 3, ("front", 0, 1)), ([], 1, True), None),
                (("leads", 3, ("front", 4, 1)), ([], 1, False), 5),
                (("beside", 1, ("front", 2, 1), ("back", 2, 1)), ([5], 6, False), 3)):
            self.assertEqual(answer(script, claim), told)
            self.assertEqual(breaking(script, claim), broken)
            lines = Lines(script)
            for rows in range(1, 20):
                self.assertIs(holds(script, rows, claim), lines.holds(rows, claim) is True)

    def test_great_rounds_by_holds(self):
        draw = random.Random(705)
        for script in DRAWN[::2]:
            for _ in range(3):
                claim = drawn_claim(draw, script, 90)
                truths = [holds(script, rows, claim) for rows in range(1, 420)]
                told = answer(script, claim)
                self.assertEqual(told, answer_of(truths), (script.calls(), claim))
                if told[2]:
                    self.assertIn(breaking(script, claim), (None, *range(1, told[1])))

    def test_answers_that_come_late(self):
        for k in (1, 7, 45, 90, -45, -90):
            up = Script(2, [("up", 0, 1)])
            claim = ("at", k, ("front", 9, 0), ("back", 9, 0))
            early = [rows for rows in range(10, 200) if (9 - k) % rows == rows - 10]
            if (9 - k) % 500 == 490:
                continue
            self.assertEqual(answer(up, claim), (early, max(early) + 1 if early else 1, False))
            both = Script(2, [("up", 0, 1), ("up", 1, -1)])
            claim = ("beside", k // 2, ("front", 9, 0), ("front", 9, 1))
            early = [rows for rows in range(10, 300) if 2 * (k // 2) % rows == 0]
            if k // 2 != 0:
                self.assertEqual(answer(both, claim), (early, max(early) + 1 if early else 1, False))
            claim = ("beside", k // 2, ("front", 9, 1), ("back", 9, 0))
            truths = [rows > 9 and (9 + k // 2) % rows == (rows - 10 - k // 2) % rows for rows in range(1, 300)]
            self.assertEqual(answer(both, claim), answer_of(truths))

    def test_the_latest_answers(self):
        # Those from both ends come as far as they can, and stand in one row on one long line.
        script = Script(2, [("wheel", 0, 1, 1)])
        for k in (0, 1, 45, 90):
            claim = ("beside", k, ("front", 9, 1), ("back", 9, 0))
            early, first, later = answer(script, claim)
            self.assertEqual([early[-1], first, later], [2 * k + 19, 2 * k + 20, False])
            self.assertEqual(answer_all(script, [claim, ("beside", k, ("front", 0, 0), ("front", 0, 0))]),
                             (early, first, later))

    def test_answer_all(self):
        draw = random.Random(706)
        seen = {}
        for script in DRAWN:
            for many in (1, 2, 3, 8, 9):
                claims = [drawn_claim(draw, script, 20) for _ in range(many)]
                if draw.random() < 0.6:
                    # Claims that hold on many lines, so that all together do on some.
                    claims = [claim[:2] + (claim[2],) * 2 if claim[0] != "leads" else
                              ("beside", claim[1], claim[2], claim[2]) for claim in claims[:-1]] + claims[-1:]
                    claims = [("beside",) + claim[1:] if len(claim) == 4 else claim for claim in claims]
                truths = [all(holds(script, rows, claim) for claim in claims) for rows in range(1, MOST + 1)]
                kept = list(claims)
                told = answer_all(script, claims)
                self.assertEqual(told, answer_of(truths), (script.calls(), claims))
                self.assertEqual(claims, kept)
                self.assertEqual(answer_all(script, claims[::-1]), told)
                seen[bool(told[0]), told[1] == 1, told[2]] = True
            self.assertEqual(answer_all(script, []), ([], 1, True))
        self.assertGreaterEqual(len(seen), 4)

    def test_all_of_one(self):
        for script in DRAWN:
            claim = ("leads", 1, ("front", 1, 0))
            self.assertEqual(answer_all(script, [claim]), answer(script, claim))
            self.assertEqual(answer_all(script, [claim] * 8), answer(script, claim))

    def test_told_lists_are_new(self):
        rise = Script(2, [("up", 0, 1)])
        claim = ("beside", 1, ("front", 0, 0), ("front", 1, 1))
        answer(rise, claim)[0].clear()
        answer_all(rise, [claim])[0].clear()
        answer_all(rise, [])[0].append(3)
        self.assertEqual([answer(rise, claim), answer_all(rise, [claim]), answer_all(rise, [])],
                         [([2], 3, False), ([2], 3, False), ([], 1, True)])

    def test_the_examples(self):
        rise = Script(2, [("up", 0, 1)])
        self.assertEqual([answer(rise, ("beside", 1, ("front", 0, 0), ("front", 1, 1))),
                          answer(rise, ("beside", 1, ("front", 0, 0), ("back", 0, 1)))],
                         [([2], 3, False), ([], 1, True)])
        self.assertEqual([breaking(rise, ("leads", 1, ("front", 1, 0))), breaking(rise, ("leads", 1, ("front", 0, 0))),
                          holds(rise, 10 ** 30, ("at", -1, ("back", 0, 0), ("front", 0, 0)))], [None, 2, True])


class IsClaimTest(unittest.TestCase):
    def near(self, files, most):
        """Values that are nearly claims about a script of so many files, with at most so many rounds."""
        spot = ("front", 0, 0)
        things = []
        for bad in [("front", 10, 0), ("front", -1, 0), ("back", 0, files), ("back", 0, -1), ("front", True, 0),
                    ("front", 0, False), ("middle", 0, 0), ("Front", 0, 0), (0, 0, 0), ["front", 0, 0], ("front", 0),
                    ("front", 0, 0, 0), (), "front", "front.0.0", None, 0, (("front",), 0, 0), ("front", "0", 0),
                    ("front", (0,), 0), ("front", 0, None), ([], 0, 0), ("front", 10 ** 40, 0)]:
            things += [("at", 1, bad, spot), ("at", 1, spot, bad), ("beside", 1, spot, bad), ("beside", 1, bad, spot),
                       ("leads", 1, bad)]
        for k in [True, False, None, "1", (1,), [1], {}, most + 1, -most - 1, 10 ** 40]:
            things += [("at", k, spot, spot), ("beside", k, spot, spot), ("leads", k, spot)]
        things += [("at", 1, spot), ("beside", 1, spot), ("leads", 1, spot, spot), ("at", 1, spot, spot, spot),
                   ("leads", 1), ("leads",), ("At", 1, spot, spot), ("", 1, spot), (0, 1, spot), ("led", 1, spot),
                   (None, 1, spot), (["leads"], 1, spot), ({}, 1, spot), ["leads", 1, spot], "leads 1 front.0.0",
                   ("leads", spot, 1), (("leads", 1, spot),), [("leads", 1, spot)], ("leads", spot)]
        return things

    def test_right_claims(self):
        draw = random.Random(707)
        for script in DRAWN:
            for _ in range(20):
                self.assertIs(is_claim(script, drawn_claim(draw, script, 90)), True)
            for end in ("front", "back"):
                for file in range(script.files):
                    for row in range(10):
                        self.assertIs(is_claim(script, ("leads", 0, (end, row, file))), True)

    def test_the_greatest_k(self):
        spot = ("back", 9, 1)
        for size in (1, 2, 7, 16, 40, 45, 46, 90, 91):
            for script in (Script(2, [("up", 0, size)]), Script(3, [("front", 0, 1)] * size)):
                for k in range(-91, 92):
                    for claim in (("leads", k, spot), ("at", k, spot, spot), ("beside", k, spot, spot)):
                        self.assertIs(is_claim(script, claim), abs(k) * size <= 90)

    def test_things_that_are_none(self):
        for files in (2, 3):
            for script in (Script(files, [("all", 4)]), Script(files, [("front", 0, 1)] * 90)):
                for thing in any_values() + self.near(files, 90 // script.size):
                    self.assertIs(is_claim(script, thing), False, thing)
                    for function, before in ((holds, (5,)), (holds, (FAR[0],)), (answer, ()), (breaking, ())):
                        self.assertIs(raised(self, NoClaim, function, script, *before, thing).claim, thing)

    def test_the_first_of_claims(self):
        script = Script(2, [("all", 4)])
        good = ("leads", 1, ("front", 0, 0))
        for thing in any_values() + self.near(2, 22):
            for claims in ([thing], [good, thing, None], [good] * 7 + [thing], [thing, ("leads",)]):
                self.assertIs(raised(self, NoClaim, answer_all, script, claims).claim, thing)

    def test_open_ahead_of_all_else(self):
        for script in open_scripts():
            raised(self, Open, answer_all, script, [])
            for thing in any_values() + [("leads", 0, ("front", 0, 0))]:
                raised(self, Open, is_claim, script, thing)
                raised(self, Open, holds, script, 3, thing)
                raised(self, Open, answer, script, thing)
                raised(self, Open, answer_all, script, [thing])
                raised(self, Open, breaking, script, thing)


if __name__ == "__main__":
    unittest.main()
