import unittest

from eggfloors.errors import BadLine, FloorError, NoCase, NoFloor, NoPlan


class ErrorsTest(unittest.TestCase):
    def test_floor_error_stands_straight_under_value_error(self):
        self.assertEqual(FloorError.__bases__, (ValueError,))

    def test_each_refusal_stands_straight_under_floor_error(self):
        for kind in (NoCase, NoPlan, NoFloor, BadLine):
            self.assertEqual(kind.__bases__, (FloorError,))

    def test_the_four_are_four(self):
        self.assertEqual(len({NoCase, NoPlan, NoFloor, BadLine}), 4)

    def test_names(self):
        names = [kind.__name__ for kind in (FloorError, NoCase, NoPlan, NoFloor, BadLine)]
        self.assertEqual(names, ["FloorError", "NoCase", "NoPlan", "NoFloor", "BadLine"])

    def test_each_can_be_raised_with_words(self):
        for kind in (FloorError, NoCase, NoPlan, NoFloor, BadLine):
            with self.assertRaises(kind):
                raise kind("words")


if __name__ == "__main__":
    unittest.main()
