"""The desk that answers lines of text [93]."""

import random
import unittest

from pupilpairs.desk import Desk
from pupilpairs.errors import NoCommand, PupilError
from pupilpairs.notation import show_call, show_place, show_script
from pupilpairs.parade import Parade
from pupilpairs.scripts import Script
from tests.helpers import OPEN, STRAIGHT, any_values, drawn_call, kinds_of_calls, raised

WORDS = {"line": 2, "back": 0, "again": 0, "leave": 1, "come": 1, "where": 1, "mates": 1, "met": 1, "away": 0,
         "row": 1, "script": 0, "home": 0}
FAR = 10 ** 40 - 1
ASKING = ("away", "script", "home", "where 0", "mates 0", "met 0", "where 3", "mates 3", "met 3", "row 0", "row 1")


def listed(pupils):
    """Pupils as the desk answers them."""
    return " ".join("-" if pupil is None else str(pupil) for pupil in pupils) or "none"


class Told:
    """What a desk has to answer, by a Parade that is told the same."""

    def __init__(self):
        self.parade = None

    def answer(self, word, numbers, call):
        """The answer to a word with its numbers, or to a call."""
        try:
            return self.answer_of(word, numbers, call)
        except PupilError:
            return "refused"

    def answer_of(self, word, numbers, call):
        """The answer, or an error."""
        if word == "line":
            self.parade = Parade(*numbers)
            return "ok"
        parade = self.parade
        if parade is None:
            return "refused"
        if word == "do":
            parade.do(call)
        elif word in ("leave", "come"):
            {"leave": parade.leave, "come": parade.come}[word](*numbers)
        elif word in ("back", "again"):
            return show_call(parade.back() if word == "back" else parade.again())
        elif word == "where":
            return show_place(parade.place_of(*numbers))
        elif word in ("mates", "met"):
            return listed({"mates": parade.mates, "met": parade.met}[word](*numbers))
        elif word == "away":
            return listed(parade.away())
        elif word == "row":
            return listed(parade.line()[numbers[0]]) if 0 <= numbers[0] < parade.rows else "refused"
        elif word == "script":
            return show_script(Script(parade.files, parade.done()))
        else:
            places = [parade.place_of(pupil) for pupil in range(parade.files * parade.rows)]
            return "yes" if places == sorted(places) else "no"
        return "ok"


def told_all(desk):
    """What a desk answers to some lines that change nothing."""
    return [desk.execute(line) for line in ASKING]


def led_desk(files=2, rows=3):
    """A desk whose parade can be led back and again, with somebody away."""
    desk = Desk()
    for line in (f"line {files} {rows}", "up 0 1", "halve", "leave 1", "about", "back"):
        desk.execute(line)
    return desk


class TurnsTest(unittest.TestCase):
    def draw_line(self, draw):
        """A word, its numbers, a call, and the line of these."""
        word = draw.choice([*WORDS, "do", "do", "do", "do", "back", "again"])
        if word == "do":
            call = drawn_call(draw, draw.choice([2, 2, 3]), STRAIGHT + OPEN, draw.choice([3, 16, 17, 20]))
            return word, [], call, show_call(call)
        if word == "line":
            numbers = [draw.choice([2, 3, 2, 3, 1, 4]), draw.choice([1, 2, 4, 6, 0, 101])]
            if draw.random() < 0.8:
                return self.draw_line(draw)
        else:
            numbers = [draw.choice([0, 1, 2, 3, 5, 8, -1, 30, FAR, -FAR])][:WORDS[word]]
        return word, numbers, None, " ".join([word] + [str(number) for number in numbers])

    def test_desks_by_turns(self):
        draw = random.Random(930)
        pairs = [(Desk(), Told()) for _ in range(3)]
        seen = {}
        for _ in range(6000):
            desk, told = draw.choice(pairs)
            word, numbers, call, line = self.draw_line(draw)
            expected = told.answer(word, numbers, call)
            self.assertEqual(desk.execute(line), expected, line)
            seen[word, expected == "refused"] = True
        self.assertGreaterEqual(len(seen), 2 * len(WORDS) - 1)

    def test_each_kind_of_call(self):
        for files in (2, 3):
            for k in (1, 16, -16):
                desk, parade = Desk(), Parade(files, 4)
                desk.execute(f"line {files} 4")
                for call in kinds_of_calls(files, k):
                    self.assertEqual(desk.execute(show_call(call)), "ok")
                    parade.do(call)
                    for row in range(4):
                        self.assertEqual(desk.execute(f"row {row}"), listed(parade.line()[row]))
                self.assertEqual(desk.execute("script"), show_script(Script(files, parade.done())))

    def test_answers(self):
        desk = Desk()
        for line, expected in (
                ("line 3 2", "ok"), ("home", "yes"), ("script", "3:"), ("away", "none"), ("back", "refused"),
                ("again", "refused"), ("row 0", "0 1 2"), ("row 1", "3 4 5"), ("row 2", "refused"), ("swap 0 2", "ok"),
                ("row 0", "2 1 0"), ("home", "no"), ("up 1 1", "ok"), ("where 4", "0.1"), ("mates 4", "0 2"),
                ("met 4", "0 2 3 5"), ("leave 0", "ok"), ("leave 0", "refused"), ("mates 4", "2"), ("row 0", "2 4 -"),
                ("leave 2", "ok"), ("mates 4", "none"), ("away", "0 2"), ("where 2", "0.0"), ("met 0", "1 2 4"),
                ("come 0", "ok"), ("come 0", "refused"), ("away", "2"), ("script", "3: swap 0 2, up 1 1"),
                ("back", "up 1 1"), ("row 0", "- 1 0"), ("again", "up 1 1"), ("again", "refused"), ("back", "up 1 1"),
                ("back", "swap 0 2"), ("home", "yes"), ("row 0", "0 1 -"), ("back", "refused"), ("again", "swap 0 2"),
                ("fill", "ok"), ("again", "refused"), ("line 2 1", "ok"), ("away", "none"), ("script", "2:"),
                ("row 0", "0 1"), ("again", "refused"), ("halve", "ok"), ("home", "yes"), ("script", "2: halve")):
            self.assertEqual(desk.execute(line), expected, line)

    def test_none_at_all(self):
        desk = Desk()
        desk.execute("line 2 1")
        desk.execute("leave 1")
        self.assertEqual([desk.execute("mates 0"), desk.execute("met 0"), desk.execute("row 0")], ["none", "1", "0 -"])
        desk.execute("leave 0")
        # A parade of which all are away is one all the same.
        self.assertEqual([desk.execute("away"), desk.execute("row 0"), desk.execute("home")], ["0 1", "- -", "yes"])

    def test_two_hundred_calls(self):
        desk = Desk()
        desk.execute("line 2 3")
        for _ in range(200):
            self.assertEqual(desk.execute("all 1"), "ok")
        self.assertEqual([desk.execute("all 1"), desk.execute("home")], ["refused", "no"])
        self.assertEqual(desk.execute("script"), "2: " + ", ".join(["all 1"] * 200))
        self.assertEqual([desk.execute("back"), desk.execute("about"), desk.execute("about")],
                         ["all 1", "ok", "refused"])

    def test_the_example(self):
        desk = Desk()
        self.assertEqual([desk.execute("line 2 2"), desk.execute("up 0 1"), desk.execute("row 0"),
                          desk.execute("home"), desk.execute("script"), desk.execute("back")],
                         ["ok", "ok", "2 1", "no", "2: up 0 1", "up 0 1"])


class RefusedTest(unittest.TestCase):
    def test_ahead_of_any_line(self):
        desk = Desk()
        for line in ("back", "again", "leave 0", "come 0", "where 0", "mates 0", "met 0", "away", "row 0", "script",
                     "home", "all 1", "swap 0 1", "up 2 1", "about", "halve", "line 1 2", "line 4 2", "line 2 0",
                     "line 2 101", "line -2 3", "line 2 -3", f"line {FAR} 2", f"line 2 {FAR}", "all 17"):
            self.assertEqual(desk.execute(line), "refused", line)
        for line in ("line 2", "line", "go", "", "all 0", "where", "where 0 0"):
            raised(self, NoCommand, desk.execute, line)
        self.assertEqual([desk.execute("line 3 1"), desk.execute("row 0")], ["ok", "0 1 2"])

    def test_nothing_has_changed(self):
        desk = led_desk()
        told = told_all(desk)
        for line in ("line 1 2", "line 4 2", "line 2 0", "line 2 101", "line 0 0", "line -2 3", f"line {FAR} {FAR}",
                     "swap 0 2", "up 2 1", "wheel 2 1 3", "front 1 2", "all 17", "all -17", "up 0 17", "wheel 0 1 -17",
                     f"all {FAR}", f"up 1 -{FAR}", "leave 1", "come 0", "leave 6", "come 6", "where 6", "mates 6",
                     "met 6", "leave -1", "come -1", "where -1", "mates -1", "met -1", "row 3", "row -1", f"row {FAR}",
                     f"row -{FAR}", f"where {FAR}", f"where -{FAR}", f"leave {FAR}", f"come -{FAR}"):
            self.assertEqual(desk.execute(line), "refused", line)
            self.assertEqual(told_all(desk), told)
        # What was undone can still be done again.
        self.assertEqual([desk.execute("again"), desk.execute("back"), told_all(desk)], ["about", "about", told])

    def test_the_bounds_of_a_line(self):
        desk = Desk()
        for files in range(-1, 6):
            for rows in (-1, 0, 1, 2, 99, 100, 101, 102):
                expected = "ok" if files in (2, 3) and 1 <= rows <= 100 else "refused"
                self.assertEqual(desk.execute(f"line {files} {rows}"), expected)
        self.assertEqual([desk.execute("row 99"), desk.execute("row 100")], ["297 298 299", "refused"])


class NoCommandTest(unittest.TestCase):
    def check(self, things):
        """Asserts that things are no commands, and change nothing."""
        for desk in (Desk(), led_desk(), led_desk(3, 1)):
            told = told_all(desk)
            for thing in things:
                self.assertEqual(vars(raised(self, NoCommand, desk.execute, thing)), {}, thing)
            self.assertEqual(told_all(desk), told)
            self.assertEqual([desk.execute("again"), desk.execute("back"), told_all(desk)],
                             ["about", "about", told] if told[0] != "refused" else ["refused", "refused", told])

    def test_any_value(self):
        self.check([thing for thing in any_values() if thing != "swap 0 1"] + [0, b"home", ["home"], ("home",)])

    def test_words_and_numbers(self):
        things = ["", " ", "do all 1", "go", "call all 1", "calls", "trial", "done", "ok", "refused", "2: all 1", "0.0",
                  "0", "-", "leads 1 front.0.0", "none"]
        for word, many in WORDS.items():
            right = " ".join([word] + ["1"] * many)
            things += [right.upper(), right.title(), " " + right, right + " ", right + "\n", "\n" + right, right + " 1",
                       right + ",", right[:-1] + "x", "x" + right, right + " x", right + " -", right + " -1"]
            if many:
                things += [word, word + " ", word + "1", right[:-1], right.replace(" ", "\n"), right.replace(" ", "  ")]
            if many == 2:
                things += [word + " 2", "line 2,3", "line 2 3 4", "line 2: 3"]
        self.check(things)

    def test_numbers_that_are_not_written_so(self):
        for number in ("00", "01", "-0", "-01", "+1", "1.0", "1_0", "one", "-", "--1", "1-", "", "1" + "0" * 40,
                       "-1" + "0" * 40, "9" * 5000, "0x1", "True", "1\n", "~", "0.0"):
            self.check([f"{word} {number}" for word in ("leave", "come", "where", "mates", "met", "row", "all", "up 0")]
                       + [f"line {number} 2", f"line 2 {number}", f"swap {number} 2", f"up {number} 1"])

    def test_what_is_no_call(self):
        self.check(["all 0", "up 0 0", "up 3 1", "up -1 1", "swap 0 0", "swap 0 3", "wheel 0 1 0", "front 1 1",
                    "about 1", "all 1 1", "all", "up 1", "swap 0", "all 1, about", "('all', 1)", "others 1"])


if __name__ == "__main__":
    unittest.main()
