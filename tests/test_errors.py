import unittest

from tidewarden import errors

NAMES = ["BadText", "NotAllowed", "BadLine", "BadCourse", "Over", "NothingToUndo", "NoRule", "Full"]


class ErrorsTest(unittest.TestCase):
    def test_each_error_is_directly_below_port_error(self):
        self.assertEqual(errors.PortError.__bases__, (ValueError,))
        for name in NAMES:
            self.assertEqual(getattr(errors, name).__bases__, (errors.PortError,), name)

    def test_there_are_no_others(self):
        found = [name for name, value in vars(errors).items() if isinstance(value, type)]
        self.assertEqual(sorted(found), sorted(NAMES + ["PortError"]))

    def test_fields(self):
        self.assertEqual(errors.BadLine(3).line, 3)
        self.assertEqual(errors.BadLine(line=0).line, 0)
        self.assertEqual(errors.BadCourse(4).tick, 4)
        self.assertEqual(errors.BadCourse(tick=0).tick, 0)

    def test_they_can_be_raised_and_caught(self):
        for name in NAMES:
            kind = getattr(errors, name)
            with self.assertRaises(ValueError):
                raise kind(1) if name in ("BadLine", "BadCourse") else kind("why")


if __name__ == "__main__":
    unittest.main()
