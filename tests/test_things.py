"""Point 2: what a whole number is, what a name is, and tuples of some size."""

import unittest

from tests.samples import NOT_NAMES
from whistleboard.things import is_name, is_tuple_within, is_whole, is_whole_within


class WholeTest(unittest.TestCase):

    def test_ints_are_whole_numbers(self):
        for thing in (0, 1, -1, 10 ** 59):
            with self.subTest(thing=thing):
                self.assertIs(is_whole(thing), True)

    def test_truths_and_other_things_are_none(self):
        for thing in (True, False, None, "1", [], [1], (), (1,)):
            with self.subTest(thing=thing):
                self.assertIs(is_whole(thing), False)

    def test_the_bounds_belong_to_it(self):
        told = [is_whole_within(thing, 1, 4) for thing in (0, 1, 4, 5)]
        self.assertEqual(told, [False, True, True, False])

    def test_truths_lie_within_nothing(self):
        for thing in (True, False, None, "1", [1], (1,)):
            with self.subTest(thing=thing):
                self.assertIs(is_whole_within(thing, 0, 9), False)


class NameTest(unittest.TestCase):

    def test_one_to_eight_letters(self):
        for thing in ("a", "z", "az", "abcdefgh", "zzzzzzzz", "redone"):
            with self.subTest(thing=thing):
                self.assertIs(is_name(thing), True)

    def test_all_else_is_no_name(self):
        for thing in NOT_NAMES:
            with self.subTest(thing=str(thing)[:40]):
                self.assertIs(is_name(thing), False)


class TupleTest(unittest.TestCase):

    def test_the_bounds_belong_to_it(self):
        told = [is_tuple_within((None,) * many, 1, 3) for many in range(5)]
        self.assertEqual(told, [False, True, True, True, False])

    def test_other_things_are_no_tuples(self):
        for thing in ([None], "a", None, 1, True, []):
            with self.subTest(thing=thing):
                self.assertIs(is_tuple_within(thing, 0, 3), False)


if __name__ == "__main__":
    unittest.main()
