import unittest

from spanways.errors import BadFact, BadText, NoLabel, NoName, SpanError, TooMany, Twice

REFUSALS = [BadText, Twice, NoLabel, NoName, BadFact, TooMany]


class Errors(unittest.TestCase):
    def test_any_refusal_is_a_value_error(self):
        self.assertEqual(SpanError.__bases__, (ValueError,))

    def test_each_stands_straight_under_span_error(self):
        for refusal in REFUSALS:
            self.assertEqual(refusal.__bases__, (SpanError,), refusal)

    def test_none_stands_under_another_one(self):
        for one in REFUSALS:
            for other in REFUSALS:
                self.assertEqual(issubclass(one, other), one is other, (one, other))

    def test_bad_text_bears_its_row(self):
        for row in (0, 1, 69, 10 ** 60):
            error = BadText(row)
            self.assertEqual(error.row, row)
            self.assertIs(type(error.row), int)

    def test_the_others_bear_their_word(self):
        for refusal in (Twice, NoLabel, NoName):
            for word in ("", "a", "abcdefgh"):
                self.assertEqual(refusal(word).word, word)

    def test_fields_are_each_object_s_own(self):
        one, other = BadText(1), BadText(2)
        self.assertEqual((one.row, other.row), (1, 2))
        one, other = NoName("a"), NoName("b")
        self.assertEqual((one.word, other.word), ("a", "b"))

    def test_each_is_raised_and_taken_by_its_own_name_and_as_any_refusal(self):
        for error in (BadText(3), Twice("a"), NoLabel("a"), NoName("a"), BadFact(), TooMany()):
            for taken in (type(error), SpanError, ValueError):
                with self.assertRaises(taken):
                    raise error


if __name__ == "__main__":
    unittest.main()
