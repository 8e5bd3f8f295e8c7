import unittest

from limitdesk import errors

NAMES = ("NoDesk", "BadPoint", "NoGoal", "NoPlace", "NoPoint", "NoTable", "NoText", "TooMany", "Unlike")


class ErrorClasses(unittest.TestCase):
    def test_limit_error_stands_under_value_error(self):
        self.assertTrue(issubclass(errors.LimitError, ValueError))
        self.assertIsNot(errors.LimitError, ValueError)

    def test_each_stands_under_limit_error(self):
        for name in NAMES:
            kind = getattr(errors, name)
            with self.subTest(name=name):
                self.assertTrue(issubclass(kind, errors.LimitError))
                self.assertIsNot(kind, errors.LimitError)
                self.assertEqual(kind.__name__, name)

    def test_none_stands_beneath_another(self):
        for one in NAMES:
            for other in NAMES:
                if one != other:
                    with self.subTest(one=one, other=other):
                        self.assertFalse(issubclass(getattr(errors, one), getattr(errors, other)))

    def test_each_is_raised_with_words_of_its_own(self):
        for name in ("LimitError",) + NAMES:
            with self.subTest(name=name):
                with self.assertRaises(ValueError) as caught:
                    raise getattr(errors, name)("own words")
                self.assertEqual(str(caught.exception), "own words")


if __name__ == "__main__":
    unittest.main()
