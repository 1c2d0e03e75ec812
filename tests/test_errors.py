"""The errors [20], [4]."""

import copy
import inspect
import unittest

from pupilpairs import errors
from tests.helpers import any_values

SIGNATURES = {
    "Wrong": ["place"], "NoCall": ["thing"], "Unlike": [], "NoPlace": ["place"], "NoPupil": ["pupil"], "Open": [],
    "NoWish": ["wish"], "NoStep": ["step"], "NoClaim": ["claim"], "NoRow": ["row"], "NoOrder": ["base", "modulus"],
    "NoArrangement": ["thing"], "Full": ["limit"], "Nothing": [], "Away": ["pupil"], "There": ["pupil"], "NoText": [],
    "NoCommand": [],
}


class ErrorsTest(unittest.TestCase):
    def test_pupil_error_is_a_value_error(self):
        self.assertEqual(errors.PupilError.__bases__, (ValueError,))
        self.assertIsInstance(errors.PupilError(), ValueError)

    def test_just_these_classes_are_direct_subclasses(self):
        classes = dict(inspect.getmembers(errors, inspect.isclass))
        self.assertEqual(sorted(classes), sorted([*SIGNATURES, "PupilError"]))
        for name in SIGNATURES:
            self.assertEqual(classes[name].__bases__, (errors.PupilError,), name)
            self.assertEqual(classes[name].__module__, "pupilpairs.errors")

    def test_the_very_objects_are_kept(self):
        for name, names in SIGNATURES.items():
            for value in any_values():
                arguments = [value, [value]][:len(names)]
                error = getattr(errors, name)(*arguments)
                self.assertEqual(len(vars(error)), len(names), name)
                for argument, attribute in zip(arguments, names):
                    self.assertIs(getattr(error, attribute), argument, name)

    def test_what_is_kept_is_no_copy(self):
        kept = [1, {"x": []}]
        error = errors.NoOrder(kept, kept)
        kept[1]["x"].append(5)
        self.assertEqual(error.base, [1, {"x": [5]}])
        self.assertIs(error.modulus, kept)

    def test_errors_are_raised_and_caught_as_each_base(self):
        for base in (errors.NoCall, errors.PupilError, ValueError):
            with self.assertRaises(base) as caught:
                raise errors.NoCall({"any": []})
            self.assertEqual(caught.exception.thing, {"any": []})

    def test_an_error_can_be_shown_and_copied(self):
        error = errors.NoOrder(2, [4])
        self.assertIsInstance(str(error), str)
        self.assertEqual(copy.copy(error).modulus, [4])


if __name__ == "__main__":
    unittest.main()
