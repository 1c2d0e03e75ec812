"""The interface: its names, arguments and methods stand where the document lists them."""

import importlib
import inspect
import unittest

FUNCTIONS = {
    "kinds": ["is_integer(thing)", "is_files(thing)", "is_rows(thing)", "is_index(thing, many)"],
    "calls": ["is_call(files, thing)", "is_straight(call)", "size_of(call)", "turned(call)", "mirrored(call, files)",
              "moved_by(call, files, rows, place)", "files_of(call)"],
    "moves": ["is_place(files, rows, thing)", "number_of(files, place)", "place_of(files, number)",
              "moved(script, rows, place)", "came_from(script, rows, place)", "passed(script, rows, place)"],
    "lines": ["moves_of(script, rows)"],
    "stretches": ["stretches(script, rows)", "are_stretches(script, rows, thing)", "stretch_at(script, rows, place)",
                  "led_by(stretch, row)", "joined(first, second)"],
    "pieces": ["early(script)", "pieces(script)", "are_pieces(script, thing)", "is_told(script, rows, thing)",
               "told_by(pieces, rows)", "put(pieces, rows, place)"],
    "parity": ["is_even(script, rows)", "are_exchanges(script, rows, thing)", "parities(script)",
               "exchanges(script, rows)", "odd_on(script)"],
    "alike": ["alike(one, other)", "parting(one, other)", "parting_to(one, other, most)", "is_nothing(script)"],
    "changes": ["needless(script)", "exchangeable(script)", "kept(script)", "commute(one, other)"],
    "lanes": ["middle(script)", "strides(script)", "turn_of(script)"],
    "corners": ["behind(script, rows, place, rounds)", "walk(script, rows, place)", "is_walk(script, rows, thing)",
                "mates(script, rows, pupil, rounds)", "along(script, rows, thing, rounds)"],
    "whens": ["reach(script, rows, place, wished)", "when(script, rows, wish)", "when_all(script, rows, wishes)",
              "clash(script, rows, wishes)", "is_clash(script, rows, wishes, thing)"],
    "rests": ["period(script)", "from_rows(script)", "power_of(script)", "families(script, rest, step)"],
    "loops": ["loop_length(script, rows, place)", "loops(script, rows)", "returns(script, rows)",
              "never_lead(script, rows)", "leads(script, rows, pupil)"],
    "claims": ["is_claim(script, thing)", "holds(script, rows, claim)", "answer(script, claim)",
               "answer_all(script, claims)", "breaking(script, claim)"],
    "meetings": ["first_meeting(script, rows, one, other)", "apart(script, rows, one, other)",
                 "met(script, rows, pupil)", "is_apart(script, rows, one, other, divisor)", "all_met(script, rows)",
                 "strangers(script, rows)"],
    "often": ["often(script, rows, one, other)", "company(script, rows, pupil)",
              "first_after(script, rows, one, other, rounds)", "longest_apart(script, rows, one, other)",
              "closest(script, rows)"],
    "halves": ["halved(files, rows, place, rounds)", "stepped(rows, row, rounds)"],
    "orders": ["order_paper(base, modulus)", "is_order_paper(base, modulus, thing)", "halve_return(files, rows)",
               "others_return(rows)"],
    "seek": ["arranged(files, rows, calls)", "seek(files, rows, calls, wished)", "levels(files, rows, calls)",
             "bounds(files, rows, calls)", "is_bound(files, rows, calls, thing)"],
    "notation": ["show_call(call)", "show_script(script)", "show_place(place)", "show_claim(claim)"],
    "readers": ["read_call(text)", "read_place(text)", "read_claim(text)", "read_script(text)"],
}
CLASSES = {
    "scripts": ("Script(files, calls)",
                ["__eq__(self, other)", "__len__(self)", "__iter__(self)", "__mul__(self, other)", "__invert__(self)",
                 "times(self, k)", "calls(self)", "call_at(self, index)", "is_straight(self)", "without(self, index)",
                 "with_call(self, index, call)", "mirrored(self)"],
                ["files", "size"]),
    "lines": ("Line(files, rows)",
              ["__eq__(self, other)", "__len__(self)", "__iter__(self)", "order(self)", "leaders(self)",
               "at(self, place)", "place_of(self, pupil)", "row_of(self, pupil)", "is_home(self)", "do(self, thing)",
               "go(self, script, rounds)", "copied(self)"],
              ["files", "rows"]),
    "parade": ("Parade(files, rows)",
               ["__len__(self)", "do(self, call)", "back(self)", "again(self)", "done(self)", "away(self)",
                "line(self)", "trial(self, calls)", "leave(self, pupil)", "come(self, pupil)", "place_of(self, pupil)",
                "mates(self, pupil)", "met(self, pupil)"],
               ["files", "rows"]),
    "desk": ("Desk()", ["execute(self, line)"], []),
}


def module(name):
    """The file of the package with a name."""
    return importlib.import_module("pupilpairs." + name)


class InterfaceTest(unittest.TestCase):
    def check(self, owner, signature):
        """Asserts that a function with a signature is defined in its owner."""
        name = signature.partition("(")[0]
        function = vars(owner)[name]
        self.assertTrue(inspect.isfunction(function), signature)
        self.assertEqual(name + str(inspect.signature(function)), signature)
        return function

    def test_functions(self):
        for name, signatures in FUNCTIONS.items():
            for signature in signatures:
                self.assertEqual(self.check(module(name), signature).__module__, "pupilpairs." + name)

    def test_classes(self):
        for name, (signature, methods, properties) in CLASSES.items():
            made = vars(module(name))[signature.partition("(")[0]]
            self.assertEqual(made.__name__ + str(inspect.signature(made)), signature)
            self.assertEqual(made.__module__, "pupilpairs." + name)
            for method in methods:
                self.check(made, method)
            for one in properties:
                self.assertIsInstance(vars(made)[one], property)

    def test_each_file_has_its_tests(self):
        for name in [*FUNCTIONS, *CLASSES, "errors"]:
            self.assertTrue(inspect.ismodule(importlib.import_module("tests.test_" + name)))


if __name__ == "__main__":
    unittest.main()
