import unittest

from swornrun import errors


class ErrorsTest(unittest.TestCase):
    def test_which_class_lies_under_which(self):
        for below, above in (
            (errors.SwornError, ValueError),
            (errors.BadLine, errors.SwornError),
            (errors.BadText, errors.BadLine),
            (errors.BadProgram, errors.BadLine),
            (errors.BadPaper, errors.BadLine),
            (errors.BadStart, errors.SwornError),
            (errors.NoProcedure, errors.SwornError),
        ):
            self.assertEqual(below.__bases__, (above,))

    def test_row(self):
        for made in (errors.BadLine, errors.BadText, errors.BadProgram, errors.BadPaper):
            for row in (1, 7, 61):
                self.assertEqual(made(row).row, row)

    def test_caught_as_what_they_are(self):
        for made in (errors.BadText, errors.BadProgram, errors.BadPaper):
            with self.assertRaises(errors.BadLine) as caught:
                raise made(3)
            self.assertEqual(caught.exception.row, 3)
            self.assertIs(caught.exception.__class__, made)

    def test_errors_without_a_row(self):
        for made in (errors.SwornError, errors.BadStart, errors.NoProcedure):
            error = made("some words")
            self.assertEqual(str(error), "some words")
            self.assertFalse(hasattr(error, "row"))

    def test_messages_tell_the_row(self):
        self.assertIn("12", str(errors.BadText(12)))


if __name__ == "__main__":
    unittest.main()
