import inspect
import unittest

from usher import errors
from usher.errors import NoLine, NoRoom, NoServer, Twice, Unknown, UsherError

REFUSALS = (Twice, Unknown, NoServer, NoRoom, NoLine)


def is_taken_by(refusal, taker):
    try:
        raise refusal("why it was refused")
    except taker:
        return True
    except Exception:
        return False


class RefusalsTest(unittest.TestCase):
    def test_each_is_taken_by_itself_the_base_and_value_error(self):
        for refusal in REFUSALS:
            for taker in (refusal, UsherError, ValueError):
                with self.subTest(refusal=refusal.__name__, taker=taker.__name__):
                    self.assertTrue(is_taken_by(refusal, taker))

    def test_none_is_taken_by_another(self):
        for refusal in REFUSALS:
            for taker in REFUSALS:
                if taker is not refusal:
                    with self.subTest(refusal=refusal.__name__, taker=taker.__name__):
                        self.assertFalse(is_taken_by(refusal, taker))

    def test_the_base_is_taken_by_none_of_the_five(self):
        for taker in REFUSALS:
            self.assertFalse(is_taken_by(UsherError, taker))

    def test_each_stands_straight_under_the_base(self):
        self.assertEqual(UsherError.__bases__, (ValueError,))
        for refusal in REFUSALS:
            self.assertEqual(refusal.__bases__, (UsherError,))

    def test_no_other_class_stands_there(self):
        found = [name for name, thing in inspect.getmembers(errors, inspect.isclass)]
        names = ["NoLine", "NoRoom", "NoServer", "Twice", "Unknown", "UsherError"]
        self.assertEqual(sorted(found), names)

    def test_each_is_made_of_a_text(self):
        for refusal in (UsherError,) + REFUSALS:
            for text in ("", "no such server", "two hundred " * 16):
                self.assertEqual(str(refusal(text)), text)


if __name__ == "__main__":
    unittest.main()
