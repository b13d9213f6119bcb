"""Points 15 and 31: rows, when two are equal, and their texts."""

import copy
import unittest

from tests.samples import ANY_THINGS
from whistleboard.rows import Row

NAMES = ("number", "written", "at", "deed", "right")
VALUES = (12, 425, 421, ("send", "redone", 3), 9)

TEXTS = (
    (("call", "mill", "house"), "call mill house"),
    (("again", 1), "again 1"),
    (("make", 200, 20), "make 200 20"),
    (("stop", 7), "stop 7"),
    (("send", "redone", 3), "send redone 3"),
    (("there", "redone"), "there redone"),
    (("back", "tall"), "back tall"),
    (("home", "wet"), "home wet"),
    (("off", "a"), "off a"),
    (("on", "abcdefgh"), "on abcdefgh"),
    (("stand", "redone", "quay"), "stand redone quay"),
    (("lend", "redone", "quay"), "lend redone quay"),
    (("shut", 0), "shut 0"),
    (("clear", 79), "clear 79"),
    (("nothing",), "nothing"),
)


def values_of(row):
    return tuple([getattr(row, name) for name in NAMES])


class MadeTest(unittest.TestCase):

    def test_by_places(self):
        self.assertEqual(values_of(Row(*VALUES)), VALUES)

    def test_by_names(self):
        row = Row(right=9, deed=("send", "redone", 3), at=421, written=425, number=12)
        self.assertEqual(values_of(row), VALUES)

    def test_right_is_nought_where_it_is_left_out(self):
        self.assertEqual(values_of(Row(*VALUES[:4])), VALUES[:4] + (0,))
        row = Row(number=12, written=425, at=421, deed=("nothing",))
        self.assertEqual(values_of(row), (12, 425, 421, ("nothing",), 0))

    def test_it_holds_these_very_things(self):
        for name in NAMES:
            for thing in ANY_THINGS + (["nothing"], ("send", ["redone"], 3)):
                with self.subTest(name=name, thing=str(thing)[:40]):
                    things = dict(zip(NAMES, VALUES))
                    things[name] = thing
                    self.assertIs(getattr(Row(**things), name), thing)

    def test_what_it_holds_stays_as_it_was(self):
        things = [["a", ["b"]] for name in NAMES]
        kept = copy.deepcopy(things)
        row = Row(*things)
        self.assertTrue(row == Row(*kept))
        str(row)
        repr(row)
        self.assertEqual(things, kept)

    def test_two_rows_share_nothing(self):
        one, other = Row(1, 2, 2, ("nothing",)), Row(2, 3, 3, ("again", 1), 1)
        self.assertEqual(values_of(one), (1, 2, 2, ("nothing",), 0))
        self.assertEqual(values_of(other), (2, 3, 3, ("again", 1), 1))


class EqualTest(unittest.TestCase):

    def test_all_five_are_equal(self):
        self.assertIs(Row(*VALUES) == Row(*VALUES), True)
        self.assertIs(Row(*VALUES) != Row(*VALUES), False)
        row = Row(*VALUES)
        self.assertTrue(row == row)
        self.assertTrue(Row(*VALUES[:4]) == Row(*VALUES[:4], 0))

    def test_one_of_the_five_is_otherwise(self):
        row = Row(*VALUES)
        for at in range(5):
            deeds = (("send", "redone", 4), ("send", "redtwo", 3), ["send", "redone", 3], ("nothing",))
            for thing in ANY_THINGS + (13, 422, 426) + deeds:
                if thing != VALUES[at]:
                    with self.subTest(at=at, thing=str(thing)[:40]):
                        other = Row(*VALUES[:at], thing, *VALUES[at + 1:])
                        self.assertIs(row == other, False)
                        self.assertIs(other == row, False)
                        self.assertIs(row != other, True)

    def test_values_at_each_others_places(self):
        row = Row(1, 2, 3, ("nothing",), 4)
        for things in ((2, 1, 3, ("nothing",), 4), (1, 3, 2, ("nothing",), 4), (4, 2, 3, ("nothing",), 1)):
            self.assertFalse(row == Row(*things))

    def test_rows_of_any_things(self):
        for thing in ANY_THINGS:
            with self.subTest(thing=str(thing)[:40]):
                self.assertTrue(Row(*[thing] * 5) == Row(*[copy.deepcopy(thing)] * 5))
                self.assertFalse(Row(*[thing] * 5) == Row(*VALUES))

    def test_things_of_other_kinds(self):
        row = Row(*VALUES)
        for thing in ANY_THINGS + (VALUES, list(VALUES), str(row), repr(row), 12):
            with self.subTest(thing=str(thing)[:40]):
                self.assertIs(row == thing, False)
                self.assertIs(thing == row, False)
                self.assertIs(row != thing, True)


class ShownTest(unittest.TestCase):

    def test_the_text_of_each_word(self):
        for deed, text in TEXTS:
            with self.subTest(deed=deed):
                self.assertEqual(str(Row(12, 425, 421, deed)), f"12 0 07:05 0 07:01 {text}")
                self.assertEqual(str(Row(12, 425, 421, deed, 9)), f"12 0 07:05 0 07:01 {text} right 9")

    def test_the_text_of_the_document(self):
        self.assertEqual(str(Row(*VALUES)), "12 0 07:05 0 07:01 send redone 3 right 9")

    def test_written_stands_ahead_of_at(self):
        self.assertEqual(str(Row(1, 9999, 0, ("nothing",))), "1 6 22:39 0 00:00 nothing")
        self.assertEqual(str(Row(200, 1440, 1439, ("nothing",), 199)), "200 1 00:00 0 23:59 nothing right 199")

    def test_no_right_where_it_is_nought(self):
        self.assertEqual(str(Row(1, 0, 0, ("again", 1), 0)), "1 0 00:00 0 00:00 again 1")
        self.assertEqual(str(Row(2, 0, 0, ("again", 1), 1)), "2 0 00:00 0 00:00 again 1 right 1")

    def test_repr(self):
        for number in (0, 1, 12, 200, 10 ** 59):
            self.assertEqual(repr(Row(number, 425, 421, ("nothing",), 9)), f"Row({number})")
        for deed, text in TEXTS:
            self.assertEqual(repr(Row(12, 425, 421, deed, 9)), "Row(12)")

    def test_rows_of_any_things_can_be_shown(self):
        for at in range(5):
            for thing in ANY_THINGS:
                with self.subTest(at=at, thing=str(thing)[:40]):
                    row = Row(*VALUES[:at], thing, *VALUES[at + 1:])
                    self.assertIs(type(str(row)), str)
                    self.assertIs(type(repr(row)), str)


if __name__ == "__main__":
    unittest.main()
