import unittest

from headroad import errors

REFUSALS = ["BadHead", "BadAddress", "BadSpan", "BadLine", "FullBoard", "NoHead"]


class Errors(unittest.TestCase):
    def test_road_error_is_a_value_error(self):
        self.assertEqual(errors.RoadError.__bases__, (ValueError,))

    def test_each_refusal_is_a_road_error(self):
        for name in REFUSALS:
            with self.subTest(name=name):
                refusal = getattr(errors, name)
                self.assertTrue(issubclass(refusal, errors.RoadError))
                self.assertTrue(issubclass(refusal, ValueError))
                self.assertIsNot(refusal, errors.RoadError)

    def test_none_stands_under_another(self):
        for one in REFUSALS:
            for other in REFUSALS:
                if one != other:
                    with self.subTest(one=one, other=other):
                        self.assertFalse(issubclass(getattr(errors, one), getattr(errors, other)))

    def test_each_can_be_raised_and_taken(self):
        for name in REFUSALS + ["RoadError"]:
            with self.subTest(name=name):
                with self.assertRaises(errors.RoadError) as taken:
                    raise getattr(errors, name)("some words")
                self.assertEqual(str(taken.exception), "some words")


if __name__ == "__main__":
    unittest.main()
