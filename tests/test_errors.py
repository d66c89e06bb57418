"""[4]: the errors."""

import unittest

from leastpromise import errors

AT = (
    "InvalidText InvalidTable InvalidSheet InvalidLines InvalidFrame InvalidProgram InvalidRows InvalidDatum "
    "InvalidEvents InvalidProcessor InvalidLot InvalidCache InvalidSource InvalidIndex InvalidSpots InvalidWhole "
    "InvalidLots InvalidWatcher InvalidParts InvalidDeed Refused").split()


class ErrorsTest(unittest.TestCase):
    def test_all_are_direct_subclasses_of_the_base(self):
        self.assertEqual(errors.PromiseError.__bases__, (Exception,))
        for name in AT + ["InvalidSize", "InvalidCommand"]:
            self.assertEqual(getattr(errors, name).__bases__, (errors.PromiseError,), name)

    def test_arguments_are_kept_as_they_are(self):
        for thing in (0, -1, True, None, "states", (1, 2), [1, [2]], errors.PromiseError()):
            for name in AT:
                made = getattr(errors, name)
                self.assertIs(made(thing).at, thing)
                self.assertIs(made(at=thing).at, thing)
            self.assertIs(errors.InvalidSize(thing).word, thing)
            self.assertIs(errors.InvalidSize(word=thing).word, thing)

    def test_the_command_error_takes_nothing(self):
        self.assertIsInstance(errors.InvalidCommand(), errors.PromiseError)
        with self.assertRaises(TypeError):
            errors.InvalidCommand(1)

    def test_others_take_just_one(self):
        for name in AT + ["InvalidSize"]:
            with self.assertRaises(TypeError):
                getattr(errors, name)()
            with self.assertRaises(TypeError):
                getattr(errors, name)(1, 2)

    def test_errors_are_not_iterable_and_have_no_length(self):
        for error in (errors.PromiseError("x"), errors.InvalidLot(1), errors.InvalidCommand()):
            with self.assertRaises(TypeError):
                iter(error)
            with self.assertRaises(TypeError):
                len(error)


if __name__ == "__main__":
    unittest.main()
