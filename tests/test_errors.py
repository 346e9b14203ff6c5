import unittest

from loopsbeside import errors


class Errors(unittest.TestCase):
    def check(self, error, base, told):
        self.assertEqual(error.__bases__, (base,))
        for made in (error(*told.values()), error(**told)):
            self.assertEqual(vars(made), told)
            self.assertIsInstance(made, base)
            with self.assertRaises(base) as caught:
                raise made
            self.assertIs(caught.exception, made)

    def test_those_of_lookup_error(self):
        self.check(errors.NoPlace, LookupError, {"place": 3})
        self.check(errors.NoPlace, LookupError, {"place": -1})
        self.check(errors.NothingDone, LookupError, {})

    def test_those_of_value_error(self):
        self.check(errors.BadLine, ValueError, {"line": 7})
        self.check(errors.CanNot, ValueError, {})
        self.check(errors.TooMuch, ValueError, {})
        self.check(errors.Unfit, ValueError, {})

    def test_none_is_caught_as_another(self):
        classes = [errors.NoPlace, errors.NothingDone, errors.BadLine, errors.CanNot, errors.TooMuch, errors.Unfit]
        for one in classes:
            for other in classes:
                self.assertEqual(issubclass(one, other), one is other)
