import unittest

from allhits.errors import Full, HitError, NoDeed, NoFamily, NoText, TooMany

REFUSALS = (TooMany, NoText, NoDeed, NoFamily, Full)


class TestErrors(unittest.TestCase):
    def test_hit_error_is_a_value_error(self):
        self.assertEqual(HitError.__bases__, (ValueError,))

    def test_each_refusal_is_a_hit_error(self):
        for refusal in REFUSALS:
            self.assertEqual(refusal.__bases__, (HitError,), refusal)

    def test_none_stands_under_another_one(self):
        for one in REFUSALS:
            for other in REFUSALS:
                self.assertIs(issubclass(one, other), one.__name__ == other.__name__, (one, other))

    def test_each_is_called_by_its_name(self):
        told = [refusal.__name__ for refusal in REFUSALS]
        self.assertEqual(told, ["TooMany", "NoText", "NoDeed", "NoFamily", "Full"])

    def test_each_is_raised_and_taken_with_words(self):
        for refusal in REFUSALS:
            for taken in (refusal, HitError, ValueError):
                with self.assertRaises(taken) as caught:
                    raise refusal("words")
                self.assertEqual(str(caught.exception), "words")


if __name__ == "__main__":
    unittest.main()
