"""The refusals, as point 3 and the interface tell them."""

import unittest

from leafjudge.errors import JudgeError, NoLine, NoPlace, NoRow, NoRule, NoSuch, NoText, TooMany

OF_A_TEXT = [TooMany, NoPlace, NoRow, NoSuch, NoLine]
REFUSALS = OF_A_TEXT + [NoText, NoRule]


class Errors(unittest.TestCase):
    def test_base_stands_straight_under_value_error(self):
        self.assertEqual(JudgeError.__bases__, (ValueError,))

    def test_each_stands_straight_under_the_base(self):
        for refusal in REFUSALS:
            self.assertEqual(refusal.__bases__, (JudgeError,), refusal)

    def test_none_stands_under_another_one(self):
        for one in REFUSALS:
            for other in REFUSALS:
                self.assertEqual(issubclass(one, other), one is other, (one, other))

    def test_each_is_called_as_told(self):
        told = ["TooMany", "NoPlace", "NoRow", "NoSuch", "NoLine", "NoText", "NoRule"]
        self.assertEqual([refusal.__name__ for refusal in REFUSALS], told)
        self.assertEqual(JudgeError.__name__, "JudgeError")

    def test_made_of_whatever_text_and_taken_as_any_refusal(self):
        for refusal in [JudgeError] + OF_A_TEXT:
            for text in ["", "a", "more than may be", "~" * 20000]:
                with self.assertRaises(JudgeError) as taken:
                    raise refusal(text)
                self.assertEqual(str(taken.exception), text)
                self.assertIs(type(taken.exception), refusal)

    def test_no_text_has_at(self):
        for at in [0, 1, 2500]:
            self.assertEqual(NoText(at).at, at)
            with self.assertRaises(ValueError) as taken:
                raise NoText(at)
            self.assertEqual(taken.exception.at, at)

    def test_no_rule_has_case(self):
        for case in [("small", "no"), (None, None), (None,)]:
            self.assertEqual(NoRule(case).case, case)
            self.assertIs(type(NoRule(case).case), tuple)
            with self.assertRaises(ValueError) as taken:
                raise NoRule(case)
            self.assertEqual(taken.exception.case, case)

    def test_fields_are_each_object_s_own(self):
        one, other = NoText(3), NoText(4)
        self.assertEqual((one.at, other.at), (3, 4))
        one, other = NoRule(("a",)), NoRule(("b",))
        self.assertEqual((one.case, other.case), (("a",), ("b",)))


if __name__ == "__main__":
    unittest.main()
