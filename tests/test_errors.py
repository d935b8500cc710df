import unittest
from itertools import permutations

from everyroad import errors

from helper import REFUSALS


class TestErrors(unittest.TestCase):
    def test_road_error_is_a_value_error(self):
        self.assertTrue(issubclass(errors.RoadError, ValueError))

    def test_each_stands_under_road_error(self):
        for name in REFUSALS:
            with self.subTest(name=name):
                refusal = getattr(errors, name)
                self.assertTrue(issubclass(refusal, errors.RoadError))
                self.assertIsNot(refusal, errors.RoadError)
                self.assertEqual(refusal.__name__, name)

    def test_none_stands_under_another(self):
        for one, other in permutations(REFUSALS, 2):
            with self.subTest(one=one, other=other):
                self.assertFalse(issubclass(getattr(errors, one), getattr(errors, other)))

    def test_each_can_be_raised_and_taken_by_its_name(self):
        for name in REFUSALS:
            refusal = getattr(errors, name)
            given = [1] if name == "NotWhole" else "words"
            for wider in (refusal, errors.RoadError, ValueError):
                with self.subTest(name=name, wider=wider), self.assertRaises(wider) as caught:
                    raise refusal(given)
                kinds = [one for one in REFUSALS if isinstance(caught.exception, getattr(errors, one))]
                self.assertEqual(kinds, [name])

    def test_road_error_itself_is_none_of_them(self):
        error = errors.RoadError("words")
        self.assertFalse(any(isinstance(error, getattr(errors, name)) for name in REFUSALS))

    def test_there_are_no_others(self):
        found = [name for name, one in vars(errors).items() if isinstance(one, type)]
        self.assertEqual(sorted(found), sorted(REFUSALS + ("RoadError",)))


class TestNotWhole(unittest.TestCase):
    def test_left_is_a_list_set_when_made(self):
        for left in ([], [0], [3, 5, 23]):
            error = errors.NotWhole(left)
            self.assertIs(type(error.left), list)
            self.assertEqual(error.left, left)

    def test_what_was_handed_in_is_not_kept(self):
        handed = [3, 5]
        error = errors.NotWhole(handed)
        handed.append(7)
        self.assertEqual(error.left, [3, 5])
        error.left.clear()
        self.assertEqual(handed, [3, 5, 7])

    def test_two_have_nothing_of_one_another(self):
        one = errors.NotWhole([1])
        other = errors.NotWhole([1])
        one.left.append(2)
        self.assertEqual(other.left, [1])


if __name__ == "__main__":
    unittest.main()
