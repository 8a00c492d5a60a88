import unittest

from spanbook.errors import NoOrder, NoStretch, NoWeights, SpanError


class Errors(unittest.TestCase):
    def test_any_refusal_is_a_value_error(self):
        self.assertEqual(SpanError.__bases__, (ValueError,))

    def test_each_refusal_is_a_span_error_of_its_own(self):
        for error in [NoStretch, NoWeights, NoOrder]:
            with self.subTest(error=error):
                self.assertEqual(error.__bases__, (SpanError,))
                with self.assertRaises(error):
                    raise error("some words")


if __name__ == "__main__":
    unittest.main()
