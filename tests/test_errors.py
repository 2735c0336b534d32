import unittest

from everysource import errors


class ErrorTest(unittest.TestCase):

    def test_each_is_directly_under_its_class(self):
        for name, base in (
                ("NoPlace", LookupError), ("NothingDone", LookupError), ("BadLine", ValueError),
                ("CanNot", ValueError), ("TooMuch", ValueError), ("Unfit", ValueError)):
            self.assertEqual(getattr(errors, name).__bases__, (base,))

    def test_values_by_place_and_by_name(self):
        for value in (0, -3, 10 ** 40):
            self.assertEqual(errors.NoPlace(value).place, value)
            self.assertEqual(errors.NoPlace(place=value).place, value)
            self.assertEqual(errors.BadLine(value).line, value)
            self.assertEqual(errors.BadLine(line=value).line, value)
            self.assertEqual(vars(errors.NoPlace(value)), {"place": value})
            self.assertEqual(vars(errors.BadLine(value)), {"line": value})

    def test_values_are_asked_for(self):
        for one in (errors.NoPlace, errors.BadLine):
            with self.assertRaises(TypeError):
                one()
        for one in (errors.NothingDone, errors.CanNot, errors.TooMuch, errors.Unfit):
            self.assertEqual(vars(one()), {})

    def test_caught_as_the_built_in_class(self):
        with self.assertRaises(LookupError):
            raise errors.NoPlace(2)
        with self.assertRaises(ValueError):
            raise errors.BadLine(line=2)


if __name__ == "__main__":
    unittest.main()
