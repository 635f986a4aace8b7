import unittest

from slopeyard import errors

SLOPE = ["BadCount", "BadRow", "BadState", "BadSums", "BadSlope", "BadTimes", "BadName", "Taken", "Full", "InUse",
         "Derived", "Whirling", "Stuck", "Wandering", "Broken", "BadText"]
ABSENT = ["NoLevel", "NoRoom", "NoDoor", "NoBeginning", "NoMachine", "Nothing"]


class ErrorsTest(unittest.TestCase):
    def test_each_stands_straight_under_its_base(self):
        self.assertEqual(errors.SlopeError.__bases__, (ValueError,))
        self.assertEqual(errors.Absent.__bases__, (LookupError,))
        for name in SLOPE:
            self.assertEqual(getattr(errors, name).__bases__, (errors.SlopeError,), name)
        for name in ABSENT:
            self.assertEqual(getattr(errors, name).__bases__, (errors.Absent,), name)

    def test_each_is_defined_in_its_file(self):
        for name in SLOPE + ABSENT + ["SlopeError", "Absent"]:
            self.assertEqual(getattr(errors, name).__module__, "slopeyard.errors")

    def test_broken_is_made_with_its_field(self):
        self.assertEqual(errors.Broken(("step", 3)).at, ("step", 3))
        self.assertEqual(errors.Broken(at=("begin", 0)).at, ("begin", 0))
        self.assertRaises(TypeError, errors.Broken)

    def test_bad_text_is_made_with_its_field(self):
        self.assertEqual(errors.BadText(4).row, 4)
        self.assertEqual(errors.BadText(row=0).row, 0)
        self.assertRaises(TypeError, errors.BadText)

    def test_those_with_a_field_can_be_caught_by_their_base(self):
        with self.assertRaises(errors.SlopeError) as caught:
            raise errors.BadText(7)
        self.assertEqual(caught.exception.row, 7)
        with self.assertRaises(ValueError):
            raise errors.Broken(at=("step", 0))

    def test_the_others_can_be_made_with_a_message_or_none(self):
        for name in SLOPE + ABSENT:
            if name not in ("Broken", "BadText"):
                self.assertIsInstance(getattr(errors, name)(), Exception)
                self.assertEqual(str(getattr(errors, name)("so")).strip("'"), "so")


if __name__ == "__main__":
    unittest.main()
