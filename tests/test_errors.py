import unittest

from relayholds import errors
from tests.examples import REFUSALS

MADE_OF = {"NoNet": "fault", "NoTable": "fault", "Raced": "race"}


class ErrorsTest(unittest.TestCase):

    def test_all_stand_in_order(self):
        found = [cls for cls in vars(errors).values() if isinstance(cls, type)]
        self.assertEqual([cls.__name__ for cls in found], ["RelayError"] + REFUSALS)

    def test_all_stand_straight_under_relay_error(self):
        self.assertEqual(errors.RelayError.__bases__, (ValueError,))
        for name in REFUSALS:
            self.assertEqual(getattr(errors, name).__bases__, (errors.RelayError,), name)

    def test_those_with_a_value_have_it(self):
        for name, attribute in MADE_OF.items():
            for value in [("words", 3), ("row", 0), (0, 1, 2, (0, 1)), None]:
                refusal = getattr(errors, name)(value)
                self.assertEqual(getattr(refusal, attribute), value)

    def test_those_with_a_value_are_not_made_of_nothing(self):
        for name in MADE_OF:
            with self.assertRaises(TypeError):
                getattr(errors, name)()

    def test_the_others_are_made_of_nothing_or_a_text(self):
        for name in REFUSALS:
            if name not in MADE_OF:
                self.assertEqual(str(getattr(errors, name)()), "")
                self.assertEqual(str(getattr(errors, name)("why")), "why")

    def test_each_can_be_raised_and_caught_as_any_refusal(self):
        for name in REFUSALS:
            with self.assertRaises(errors.RelayError):
                raise getattr(errors, name)("why")
        with self.assertRaises(ValueError):
            raise errors.RelayError("why")
