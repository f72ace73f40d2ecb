"""The refusals (point 2 and the interface's part on errors.py)."""

import unittest

from duskbook import errors

NAMES = ("NoBook", "NoHands", "Over", "NoLight", "NoneSettled", "NoTable", "NoPage", "NoPaper")


class ErrorClasses(unittest.TestCase):
    def test_dusk_error_is_a_value_error(self):
        self.assertTrue(issubclass(errors.DuskError, ValueError))

    def test_each_refusal_stands_under_dusk_error(self):
        for name in NAMES:
            with self.subTest(name=name):
                refusal = getattr(errors, name)
                self.assertTrue(issubclass(refusal, errors.DuskError))
                self.assertIsNot(refusal, errors.DuskError)

    def test_no_refusal_stands_under_another(self):
        for name in NAMES:
            for other in NAMES:
                if name != other:
                    with self.subTest(name=name, other=other):
                        self.assertFalse(issubclass(getattr(errors, name), getattr(errors, other)))

    def test_each_can_be_raised_with_words_and_taken_as_a_dusk_error(self):
        for name in NAMES + ("DuskError",):
            with self.subTest(name=name):
                with self.assertRaises(errors.DuskError) as taken:
                    raise getattr(errors, name)("words")
                self.assertEqual(str(taken.exception), "words")


if __name__ == "__main__":
    unittest.main()
