"""What texts were shown from [91]."""

import random
import unittest

from pupilpairs.errors import NoText
from pupilpairs.notation import show_call, show_claim, show_place, show_script
from pupilpairs.readers import read_call, read_claim, read_place, read_script
from pupilpairs.scripts import Script
from tests.helpers import FAR, OPEN, STRAIGHT, any_values, drawn_scripts, kinds_of_calls, raised

GREAT = (1, -1, 9, 10, -10, 10 ** 39, -10 ** 39, 10 ** 40 - 1, 1 - 10 ** 40)
TOO_GREAT = (10 ** 40, -10 ** 40, 10 ** 41, 10 ** 300)
# How an integer is not written.
BAD_NUMBERS = ("", "-", "--1", "+1", "01", "-01", "00", "-0", " 1", "1 ", "1.", "1.0", "1_0", "0x1", "1e3", "a", "one",
               "1\n", "\n1", "1,", "(1)", "True", "None", "1" + "0" * 40, "-1" + "0" * 40, "0" * 40 + "1", "9" * 5000,
               "1-", "1-1", "- 1", "~")
SPOT = "front.0.0"


def changed(text):
    """Texts that are nearly a text."""
    told = [" " + text, text + " ", text + "\n", "\n" + text, text.replace(" ", "  "), text.upper(), text.title(),
            text + ",", text + ";", text + ".", "(" + text + ")", text + " 0", "x" + text, text.replace(" ", ""),
            text.replace(" ", ","), text.replace(" ", "\n"), text[1:], text[:-1], text + text, text + " " + text]
    for at in range(len(text)):
        told += [text[:at] + text[at + 1:], text[:at] + " " + text[at:], text[:at] + "-" + text[at:],
                 text[:at] + "0" + text[at:], text[:at] + "~" + text[at + 1:]]
    words = text.split(" ")
    for at in range(len(words)):
        told += [" ".join(words[:at] + words[at + 1:]), " ".join(words[:at] + words[at:at + 1] + words[at:]),
                 " ".join(words[:at] + words[at:][::-1]), " ".join(words[:at] + ["0"] + words[at:])]
    return told


class ReadersCase(unittest.TestCase):
    def check_reads(self, read, show, thing):
        """Asserts that what is shown is read again."""
        told = read(show(thing))
        self.assertEqual(told, thing)
        self.assertIs(type(told), type(thing))

    def check_changed(self, read, show, text):
        """Asserts that a changed text is read only if it is shown for what is read of it."""
        for other in changed(text):
            try:
                told = read(other)
            except NoText:
                continue
            self.assertEqual(show(told), other)


class CallsTest(ReadersCase):
    def test_calls_are_read_again(self):
        for files in (2, 3):
            for k in GREAT:
                for call in kinds_of_calls(files, k):
                    self.check_reads(read_call, show_call, call)

    def test_changed_texts(self):
        for call in kinds_of_calls(3, -12):
            self.check_changed(read_call, show_call, show_call(call))

    def test_what_is_shown_for_nothing(self):
        for text in ("", " ", "all", "all 0", "all 1 1", "up 1", "up 0 0", "up 3 1", "up -1 1", "up 0 1 1", "swap 0",
                     "swap 0 0", "swap 2 2", "swap 0 3", "swap 3 0", "swap -1 0", "swap 0 1 1", "wheel 0 1",
                     "wheel 0 1 0", "wheel 1 1 1", "wheel 0 3 1", "wheel 1", "about 1", "front 0", "front 1 1",
                     "front 0 3", "halve 1", "pair 0", "others ", "fill -", "All 1", "ABOUT", "abouts", "go 1", "1",
                     "all,1", "all\n1", "all\t1", "up 0 1, all 1", "2: all 1", "('all', 1)", "all 1 ", " all 1",
                     "all  1", "up  0 1", "line 2 2", "about\n", "up 1 2 3", "wheel 0 1 2 3", "leads 1 front.0.0"):
            raised(self, NoText, read_call, text)

    def test_numbers_that_are_not_written_so(self):
        for number in BAD_NUMBERS + tuple(str(k) for k in TOO_GREAT):
            for text in ("all ", "up 0 ", "wheel 0 1 "):
                raised(self, NoText, read_call, text + number)
            for text in ("up {} 2", "swap {} 0", "swap 0 {}", "wheel {} 0 5", "wheel 0 {} 5", "front 2 {}"):
                raised(self, NoText, read_call, text.format(number))


class ScriptsTest(ReadersCase):
    def test_scripts_are_read_again(self):
        for script in drawn_scripts(910, 80, STRAIGHT + OPEN, many=12, size=200):
            self.check_reads(read_script, show_script, script)

    def test_no_to_twelve_calls_of_any_size(self):
        draw = random.Random(911)
        for files in (2, 3):
            calls = [call for k in GREAT for call in kinds_of_calls(files, k)]
            for many in range(13):
                self.check_reads(read_script, show_script, Script(files, draw.sample(calls, many)))
            for many in (13, 14, 200):
                raised(self, NoText, read_script, show_script(Script(files, [draw.choice(calls) for _ in range(many)])))

    def test_changed_texts(self):
        for script in drawn_scripts(912, 12, STRAIGHT + OPEN, many=3) + [Script(2, []), Script(3, [])]:
            self.check_changed(read_script, show_script, show_script(script))

    def test_files_beyond(self):
        for text in ("up 2 1", "swap 0 2", "swap 2 1", "wheel 2 0 1", "wheel 1 2 -3", "front 1 2", "front 2 0"):
            raised(self, NoText, read_script, "2: " + text)
            raised(self, NoText, read_script, "2: up 0 1, " + text)
            self.assertEqual(show_script(read_script("3: up 0 1, " + text)), "3: up 0 1, " + text)
            raised(self, NoText, read_script, "3: " + text.replace("2", "3"))

    def test_what_is_shown_for_nothing(self):
        for text in ("", ":", " ", "2", "3 ", "2 :", " 2:", "2: ", "2:  ", "2:,", "2: ,", "2:all 1", "2:  all 1",
                     "2: all 1,", "2: all 1, ", "2: all 1,about", "2: all 1,  about", "2: all 1 , about",
                     "2: , all 1", "2:, all 1", "2: all 1, , about", "2: all 1; about", "2: all 1 about", "2: all 0",
                     "1: all 1", "4: all 1", "0:", "1:", "4:", "-2:", "+2:", "02:", "2::", "2: all 1:", ": all 1",
                     "2; all 1", "2. all 1", "two: all 1", "2: All 1", "2:\nall 1", "2: all 1,\nabout", "2: all 1\n",
                     "2, all 1", "all 1", "23:", "2:3:", "2: 3: all 1", "2: all 1, 3: all 1", "True:", "2: [all 1]"):
            raised(self, NoText, read_script, text)
        for number in BAD_NUMBERS:
            raised(self, NoText, read_script, "2: all " + number)
            raised(self, NoText, read_script, "2: about, all " + number + ", about")
            raised(self, NoText, read_script, number + ": all 1")


class PlacesTest(ReadersCase):
    def test_places_are_read_again(self):
        for row in (0, 1, 10, *FAR):
            for file in (0, 1, 2, 3, 10, FAR[2]):
                self.check_reads(read_place, show_place, (row, file))

    def test_changed_texts(self):
        for text in ("0.0", "12.2", "9" * 40 + ".1"):
            self.check_changed(read_place, show_place, text)

    def test_what_is_shown_for_nothing(self):
        for text in ("", ".", "0", "0.", ".0", "0..0", "0.0.0", "0,0", "0 0", "0. 0", "0 .0", "-1.0", "0.-1", "(0, 0)",
                     "0.0\n", "front.0.0", "1" + "0" * 40 + ".0", "0.1" + "0" * 40, ".".join(["0"] * 5000)):
            raised(self, NoText, read_place, text)
        for number in BAD_NUMBERS:
            raised(self, NoText, read_place, number + ".0")
            raised(self, NoText, read_place, "0." + number)


class ClaimsTest(ReadersCase):
    def test_claims_are_read_again(self):
        spots = [(end, row, file) for end in ("front", "back") for row in range(10) for file in range(3)]
        draw = random.Random(913)
        for k in (0, *GREAT):
            for spot in spots:
                self.check_reads(read_claim, show_claim, ("leads", k, spot))
                for word in ("at", "beside"):
                    self.check_reads(read_claim, show_claim, (word, k, spot, draw.choice(spots)))

    def test_changed_texts(self):
        for text in ("leads 0 front.0.0", "at -12 front.9.2 back.3.0", "beside 90 back.1.1 front.0.0"):
            self.check_changed(read_claim, show_claim, text)

    def test_what_is_shown_for_nothing(self):
        for text in ("", " ", "leads", "leads 1", "leads front.0.0", "leads front.0.0 1", "at 1 front.0.0",
                     "beside 1 front.0.0", "leads 1 front.0.0 front.0.0", "at 1 front.0.0 back.0.0 back.0.0",
                     "leads  1 front.0.0", "leads 1  front.0.0", " leads 1 front.0.0", "leads 1 front.0.0 ",
                     "Leads 1 front.0.0", "lead 1 front.0.0", "leads 1 front 0 0", "leads 1 front.0", "leads 1 0.0",
                     "leads 1 front.0.0\n", "leads 1 ('front', 0, 0)", "all 1", "2: all 1", "0.0"):
            raised(self, NoText, read_claim, text)
        for spot in ("front.10.0", "front.0.3", "front.-1.0", "front.0.-1", "back.10.0", "back.0.3", "Front.0.0",
                     "middle.0.0", "front.0.0.0", "front..0", "front.0.", "front,0,0", ".0.0", "front.00.0",
                     "front.0.01", "front.-0.0", "front.+1.0", "front.1" + "0" * 40 + ".0", "", "front", "0.0.front"):
            for text in ("leads 1 {}", "at 1 {} front.0.0", "at 1 front.0.0 {}", "beside 1 {} {}"):
                raised(self, NoText, read_claim, text.format(spot, spot))
        for number in BAD_NUMBERS + tuple(str(k) for k in TOO_GREAT):
            raised(self, NoText, read_claim, "leads " + number + " " + SPOT)
            raised(self, NoText, read_claim, "at " + number + " " + SPOT + " " + SPOT)


class ErrorsTest(unittest.TestCase):
    def test_any_value(self):
        for read in (read_call, read_script, read_place, read_claim):
            for thing in any_values() + [0, 1, b"about", ["about"], ("about",), ("all", 1), (0, 0), Script(2, [])]:
                if read == read_call and thing == "swap 0 1":
                    continue
                self.assertEqual(vars(raised(self, NoText, read, thing)), {})


if __name__ == "__main__":
    unittest.main()
