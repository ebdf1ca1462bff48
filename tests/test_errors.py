import unittest

from frameland import errors

REFUSALS = [
    "NoShape", "OutOfRoom", "BadRights", "NoTask", "NoBank", "OutOfBank",
    "Taken", "NotMapped", "NoRight", "NoRoom", "Busy", "NoRow",
]


class ErrorsTest(unittest.TestCase):
    def test_frame_error_stands_under_value_error(self):
        self.assertTrue(issubclass(errors.FrameError, ValueError))
        self.assertIsNot(errors.FrameError, ValueError)

    def test_every_refusal_is_there_under_frame_error(self):
        for name in REFUSALS:
            with self.subTest(name=name):
                refusal = getattr(errors, name)
                self.assertEqual(refusal.__name__, name)
                self.assertTrue(issubclass(refusal, errors.FrameError))
                self.assertTrue(issubclass(refusal, ValueError))
                self.assertIsNot(refusal, errors.FrameError)

    def test_no_refusal_stands_under_another_one(self):
        for name in REFUSALS:
            for other in REFUSALS:
                if name != other:
                    with self.subTest(name=name, other=other):
                        self.assertFalse(issubclass(getattr(errors, name), getattr(errors, other)))

    def test_a_refusal_is_taken_by_its_own_name_and_as_any_refusal(self):
        for name in REFUSALS:
            with self.subTest(name=name):
                refusal = getattr(errors, name)
                for taken in (refusal, errors.FrameError, ValueError):
                    with self.assertRaises(taken):
                        raise refusal("words")


if __name__ == "__main__":
    unittest.main()
