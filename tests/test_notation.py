"""How calls, scripts, places and claims are written [90]; test_readers reads all of this again."""

import unittest

from pupilpairs.notation import show_call, show_claim, show_place, show_script
from pupilpairs.scripts import Script
from tests.helpers import FAR, OPEN, STRAIGHT, drawn_scripts


class NotationTest(unittest.TestCase):
    def test_calls(self):
        for call, text in (
                (("all", 1), "all 1"), (("all", -12), "all -12"), (("up", 2, 3), "up 2 3"), (("up", 0, -1), "up 0 -1"),
                (("swap", 1, 0), "swap 1 0"), (("wheel", 0, 2, -16), "wheel 0 2 -16"), (("about",), "about"),
                (("front", 0, 1), "front 0 1"), (("halve",), "halve"), (("pair",), "pair"), (("others",), "others"),
                (("fill",), "fill"), (("all", 10 ** 39), "all 1" + "0" * 39),
                (("wheel", 1, 0, 1 - 10 ** 40), "wheel 1 0 -" + "9" * 40), (("up", 1, 10 ** 99), "up 1 1" + "0" * 99)):
            self.assertEqual(show_call(call), text)
            self.assertIs(type(show_call(call)), str)

    def test_scripts(self):
        calls = [("up", 0, 1), ("about",), ("wheel", 0, 1, -2)]
        for files in (2, 3):
            self.assertEqual(show_script(Script(files, [])), str(files) + ":")
            self.assertEqual(show_script(Script(files, calls[:1])), str(files) + ": up 0 1")
            self.assertEqual(show_script(Script(files, calls)), str(files) + ": up 0 1, about, wheel 0 1 -2")
        long = Script(3, calls).times(100)
        self.assertEqual(show_script(long), "3: " + ", ".join(["up 0 1, about, wheel 0 1 -2"] * 100))

    def test_drawn_scripts(self):
        for script in drawn_scripts(900, 60, STRAIGHT + OPEN):
            words = [" ".join(map(str, call)) for call in script]
            expected = f"{script.files}:" + ("" if not words else " " + ", ".join(words))
            self.assertEqual(show_script(script), expected)
            self.assertEqual([show_call(call) for call in script.calls()], words)
            self.assertEqual(show_script(script), expected)

    def test_places(self):
        for place, text in (((0, 0), "0.0"), ((12, 2), "12.2"), ((FAR[2], 1), "9" * 40 + ".1")):
            self.assertEqual(show_place(place), text)

    def test_claims(self):
        for claim, text in (
                (("leads", -2, ("back", 0, 1)), "leads -2 back.0.1"),
                (("at", 0, ("front", 9, 2), ("back", 3, 0)), "at 0 front.9.2 back.3.0"),
                (("beside", 90, ("front", 0, 0), ("front", 0, 0)), "beside 90 front.0.0 front.0.0"),
                (("leads", 10 ** 40 - 1, ("front", 1, 1)), "leads " + "9" * 40 + " front.1.1")):
            self.assertEqual(show_claim(claim), text)

    def test_the_examples(self):
        go = Script(2, [("up", 0, 1), ("wheel", 0, 1, 1)])
        self.assertEqual([show_script(go), show_script(Script(3, [])), show_claim(("leads", -2, ("back", 0, 1)))],
                         ["2: up 0 1, wheel 0 1 1", "3:", "leads -2 back.0.1"])


if __name__ == "__main__":
    unittest.main()
