"""The calls [22], [2]."""

import unittest

from pupilpairs.calls import files_of, is_call, is_straight, mirrored, moved_by, size_of, turned
from tests.helpers import FAR, OPEN, all_places, any_values, kinds_of_calls, model_call

WORDS = ("all", "up", "swap", "wheel", "about", "front", "halve", "pair", "others", "fill")
HUGE = 10 ** 40 - 1


class IsCallTest(unittest.TestCase):
    def test_all_kinds_are_calls(self):
        for files in (2, 3):
            for k in (1, -1, 2, -7, 16, 17, HUGE, -HUGE, 10 ** 300):
                for call in kinds_of_calls(files, k):
                    self.assertIs(is_call(files, call), True, call)

    def test_calls_for_three_files_that_two_have_not(self):
        two = kinds_of_calls(2, 5)
        for call in kinds_of_calls(3, 5):
            self.assertIs(is_call(2, call), call in two, call)

    def test_a_k_that_is_none(self):
        for k in [0, True, False, None, "1", [1], (1,), b"\x01", {}]:
            for call in [("all", k), ("up", 0, k), ("up", 1, k), ("wheel", 0, 1, k), ("wheel", 1, 0, k)]:
                for files in (2, 3):
                    self.assertIs(is_call(files, call), False, call)

    def test_a_file_that_is_none(self):
        for files in (2, 3):
            for bad in [files, files + 1, -1, -2, HUGE, True, False, None, "0", [0], (0,), {}]:
                calls = [("up", bad, 1), ("swap", bad, 0), ("swap", 0, bad), ("swap", 1, bad),
                         ("wheel", bad, 0, 1), ("wheel", 0, bad, 1), ("wheel", 1, bad, 1),
                         ("front", bad, 1), ("front", 1, bad), ("front", 0, bad)]
                for call in calls:
                    self.assertIs(is_call(files, call), False, call)

    def test_equal_files(self):
        for files in (2, 3):
            for file in range(files):
                for call in [("swap", file, file), ("wheel", file, file, 1), ("front", file, file)]:
                    self.assertIs(is_call(files, call), False, call)

    def test_an_item_more_or_fewer(self):
        for files in (2, 3):
            for call in kinds_of_calls(files, 1):
                for item in (0, 1, 2, None, "all", ()):
                    self.assertIs(is_call(files, call + (item,)), False, call)
                self.assertIs(is_call(files, call[:-1]), False, call)
                self.assertIs(is_call(files, call[1:]), False, call)

    def test_a_list_in_the_place_of_the_tuple(self):
        for call in kinds_of_calls(3, 2):
            self.assertIs(is_call(3, list(call)), False, call)
            self.assertIs(is_call(3, (call,)), False, call)
            self.assertIs(is_call(3, (list(call),)), False, call)
            self.assertIs(is_call(3, "".join(map(str, call))), False, call)

    def test_other_words(self):
        for call in kinds_of_calls(2, 1):
            word = call[0]
            for other in (word.upper(), word.title(), word + " ", " " + word, word[:-1], word + "s", word.encode(), "",
                          [word], (word,), {word: word}, None, True, 0):
                self.assertIs(is_call(2, (other,) + call[1:]), False, other)

    def test_calls_whose_items_are_in_another_order(self):
        for call in [("up", 5, 0), ("wheel", 0, 3, 1), ("wheel", 4, 0, 1), (1, "all"), (0, 1, "swap"), ("k", "all")]:
            self.assertIs(is_call(2, call), False, call)

    def test_any_value(self):
        for value in any_values():
            for files in (2, 3):
                self.assertIs(is_call(files, value), False, repr(value)[:50])
                self.assertIs(is_call(files, (value, 1)), False)
                self.assertIs(is_call(files, ("all", value)), False)
                self.assertIs(is_call(files, ("up", value, 1)), False)
                self.assertIs(is_call(files, ("swap", 0, value)), False)
        for value in any_values() + [0, 1, -1, HUGE]:
            self.assertIs(is_call(2, value), False)
            self.assertIs(is_call(2, (value,)), False)
            self.assertIs(is_call(3, (value, value)), False)


class TellingTest(unittest.TestCase):
    def test_is_straight(self):
        for call in kinds_of_calls(3, -2):
            self.assertIs(is_straight(call), call[0] not in OPEN, call)

    def test_size_of(self):
        for k in (1, -1, 5, -16, HUGE, -HUGE):
            for call in kinds_of_calls(3, k):
                self.assertEqual(size_of(call), abs(k) if call[0] in ("all", "up", "wheel") else 1, call)

    def test_turned(self):
        for k in (1, -1, 5, -16, HUGE):
            expected = {("all", k): ("all", -k), ("up", 2, k): ("up", 2, -k), ("wheel", 2, 0, k): ("wheel", 2, 0, -k),
                        ("swap", 1, 0): ("swap", 1, 0), ("about",): ("about",), ("front", 0, 2): ("front", 0, 2),
                        ("halve",): ("pair",), ("pair",): ("halve",), ("others",): ("fill",), ("fill",): ("others",)}
            self.assertEqual(sorted(call[0] for call in expected), sorted(WORDS))
            for call in expected:
                self.assertEqual(turned(call), expected[call])
                self.assertEqual(turned(turned(call)), call)

    def test_files_of(self):
        self.assertEqual(files_of(("up", 2, 1)), [2])
        self.assertEqual(files_of(("up", 0, -5)), [0])
        for word, rest in (("swap", ()), ("front", ()), ("wheel", (1,))):
            self.assertEqual(files_of((word, 2, 0) + rest), [0, 2])
            self.assertEqual(files_of((word, 0, 1) + rest), [0, 1])
        for call in [("all", 1), ("about",), ("halve",), ("pair",), ("others",), ("fill",)]:
            self.assertEqual(files_of(call), [])

    def test_files_of_is_new_each_time(self):
        call = ("swap", 0, 1)
        files_of(call).append(7)
        files_of(("about",)).append(7)
        self.assertEqual([files_of(call), files_of(("about",))], [[0, 1], []])

    def test_mirrored(self):
        self.assertEqual(mirrored(("up", 0, 1), 2), ("up", 1, 1))
        self.assertEqual(mirrored(("up", 0, 2), 3), ("up", 2, 2))
        self.assertEqual(mirrored(("up", 1, 2), 3), ("up", 1, 2))
        self.assertEqual(mirrored(("swap", 0, 1), 3), ("swap", 2, 1))
        self.assertEqual(mirrored(("swap", 0, 1), 2), ("swap", 1, 0))
        self.assertEqual(mirrored(("front", 2, 0), 3), ("front", 0, 2))
        self.assertEqual(mirrored(("wheel", 2, 1, 1), 3), ("wheel", 0, 1, 1))
        for call in [("all", 1), ("all", -9), ("about",), ("halve",), ("pair",), ("others",), ("fill",)]:
            self.assertEqual([mirrored(call, 2), mirrored(call, 3)], [call, call])
        for files in (2, 3):
            for call in kinds_of_calls(files, 3):
                self.assertIs(is_call(files, mirrored(call, files)), True)
                self.assertEqual(mirrored(mirrored(call, files), files), call)


class MovedByTest(unittest.TestCase):
    def test_each_kind_on_short_lines(self):
        for files in (2, 3):
            for rows in (1, 2, 3, 4, 5, 8, 9):
                for k in (1, -1, 2, -3, 4, 11, -25):
                    for call in kinds_of_calls(files, k):
                        leads = model_call(call, files, rows)
                        told = {place: moved_by(call, files, rows, place) for place in all_places(files, rows)}
                        self.assertEqual(told, leads, (call, files, rows))

    def test_what_is_told_is_a_tuple_of_integers(self):
        for call in kinds_of_calls(3, 1):
            for place in all_places(3, 2):
                told = moved_by(call, 3, 2, place)
                self.assertIs(type(told), tuple)
                self.assertEqual([type(item) for item in told], [int, int])

    def test_turned_undoes(self):
        for files in (2, 3):
            for rows in (1, 2, 5, 6, *FAR):
                ends = [0, 1, 2, 3, rows // 2, rows // 2 + 1, rows - 2, rows - 1]
                places = [(row, file) for row in ends if 0 <= row < rows for file in range(files)]
                for k in (1, -2, 7, -HUGE):
                    for call in kinds_of_calls(files, k):
                        for place in places:
                            there = moved_by(call, files, rows, place)
                            self.assertEqual(moved_by(turned(call), files, rows, there), place, call)
                            back = moved_by(turned(call), files, rows, place)
                            self.assertEqual(moved_by(call, files, rows, back), place, call)

    def test_mirrored_brings_from_the_mirrored_place(self):
        for files in (2, 3):
            for rows in (1, 2, 5, 6, FAR[1]):
                places = [(row, file) for row in (0, 1, rows - 1) if row < rows for file in range(files)]
                for call in kinds_of_calls(files, 3):
                    if call[0] not in ("halve", "pair"):
                        for row, file in places:
                            there = moved_by(call, files, rows, (row, file))
                            other = moved_by(mirrored(call, files), files, rows, (row, files - 1 - file))
                            self.assertEqual(other, (there[0], files - 1 - there[1]), call)

    def test_straight_calls_on_far_lines(self):
        for rows in FAR:
            last = rows - 1
            told = {
                (("all", 1), (0, 0)): (last, 0),
                (("all", 1), (last, 1)): (last - 1, 1),
                (("all", -1), (last, 2)): (0, 2),
                (("all", rows), (5, 1)): (5, 1),
                (("all", rows + 2), (5, 1)): (3, 1),
                (("all", -3 * rows - 2), (5, 1)): (7, 1),
                (("up", 2, 4), (3, 2)): (last, 2),
                (("up", 2, 4), (3, 1)): (3, 1),
                (("up", 0, -1), (7, 0)): (8, 0),
                (("swap", 0, 2), (last, 2)): (last, 0),
                (("swap", 0, 2), (8, 1)): (8, 1),
                (("swap", 2, 0), (8, 0)): (8, 2),
                (("wheel", 0, 1, 1), (0, 0)): (0, 1),
                (("wheel", 0, 1, 1), (9, 0)): (8, 0),
                (("wheel", 0, 1, 1), (9, 1)): (10, 1),
                (("wheel", 0, 1, 1), (last, 1)): (last, 0),
                (("wheel", 0, 1, 3), (1, 0)): (1, 1),
                (("wheel", 2, 0, 5), (1, 1)): (1, 1),
                (("wheel", 2, 0, -1), (0, 0)): (0, 2),
                (("wheel", 2, 0, -1), (last, 2)): (last, 0),
                (("wheel", 2, 0, rows), (0, 2)): (last, 0),
                (("wheel", 2, 0, 2 * rows + 1), (4, 2)): (3, 2),
                (("about",), (3, 0)): (last - 3, 2),
                (("about",), (last, 1)): (0, 1),
                (("front", 0, 1), (0, 0)): (0, 1),
                (("front", 0, 1), (0, 2)): (0, 2),
                (("front", 0, 1), (1, 0)): (1, 0),
            }
            for call, place in told:
                self.assertEqual(moved_by(call, 3, rows, place), told[call, place], call)

    def test_others_on_far_lines(self):
        for rows in FAR:
            behind = (rows + 1) // 2
            for row in (0, 1, 2, 3, 10 ** 38, 10 ** 38 + 1, rows - 2, rows - 1):
                there = row // 2 if row % 2 == 0 else behind + row // 2
                self.assertEqual(moved_by(("others",), 2, rows, (row, 1)), (there, 1))
                self.assertEqual(moved_by(("fill",), 2, rows, (there, 1)), (row, 1))
            self.assertEqual(moved_by(("fill",), 3, rows, (behind - 1, 2)), (2 * behind - 2, 2))
            self.assertEqual(moved_by(("fill",), 3, rows, (behind, 2)), (1, 2))

    def test_halve_on_far_lines(self):
        for files in (2, 3):
            for rows in FAR:
                last = files - 1
                for place in [(0, 0), (0, 1), (1, 0), (rows // 2, last), (rows // 3 + 1, 0), (rows - 1, last)]:
                    number = place[0] * files + place[1]
                    there = moved_by(("halve",), files, rows, place)
                    self.assertEqual(there[1] * rows + there[0], number)
                    self.assertTrue(0 <= there[0] < rows and 0 <= there[1] < files)
                    self.assertEqual(moved_by(("pair",), files, rows, there), place)
        self.assertEqual(moved_by(("halve",), 2, 10 ** 39, (5 * 10 ** 38, 0)), (0, 1))

    def test_the_examples(self):
        self.assertEqual([moved_by(("all", 1), 2, 3, (0, 0)), moved_by(("wheel", 0, 1, 1), 2, 3, (0, 0)),
                          moved_by(("others",), 2, 3, (1, 1))], [(2, 0), (0, 1), (2, 1)])
        self.assertEqual([turned(("halve",)), is_call(2, ("swap", 0, 2))], [("pair",), False])


if __name__ == "__main__":
    unittest.main()
