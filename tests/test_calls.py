"""Points 10 and 11: what is due to a call, and its text."""

import unittest

from tests.samples import ANY_THINGS, NOT_NAMES
from whistleboard.calls import attendance, read_call
from whistleboard.errors import BadText, NoKind

DUE = (
    ("car", 1, 0, 0),
    ("chimney", 1, 0, 0),
    ("grass", 1, 0, 1),
    ("house", 2, 1, 0),
    ("people", 1, 1, 0),
    ("works", 3, 1, 1),
)
KINDS = [row[0] for row in DUE]


class AttendanceTest(unittest.TestCase):

    def test_each_kind_at_each_risk(self):
        for kind, pumps, ladders, tankers in DUE:
            for risk in (1, 2, 3, 4):
                with self.subTest(kind=kind, risk=risk):
                    more = 1 if risk == 1 else 0
                    told = attendance(kind, risk)
                    self.assertIs(type(told), tuple)
                    self.assertEqual(told, (pumps + more, ladders, tankers))

    def test_pumps_asked_for(self):
        for kind, pumps, ladders, tankers in DUE:
            for risk in (1, 2, 3, 4):
                due = pumps + 1 if risk == 1 else pumps
                for asked in list(range(due + 3)) + [20]:
                    with self.subTest(kind=kind, risk=risk, asked=asked):
                        more = asked if asked > due else due
                        self.assertEqual(attendance(kind, risk, asked), (more, ladders, tankers))

    def test_the_pump_of_the_risk_counts_among_those_asked_for(self):
        self.assertEqual(attendance("house", 1, 3), (3, 1, 0))
        self.assertEqual(attendance("house", 1, 4), (4, 1, 0))
        self.assertEqual(attendance("house", 2, 3), (3, 1, 0))

    def test_by_names(self):
        self.assertEqual(attendance(asked=5, risk=1, kind="works"), (5, 1, 1))
        self.assertEqual(attendance(risk=2, kind="works"), (3, 1, 1))

    def test_asking_changes_no_later_answer(self):
        for again in range(3):
            self.assertEqual(attendance("car", 1, 7), (7, 0, 0))
            self.assertEqual(attendance("car", 1), (2, 0, 0))
            self.assertEqual(attendance("car", 4), (1, 0, 0))


class NoKindTest(unittest.TestCase):

    def refused(self, *things):
        with self.assertRaises(NoKind) as caught:
            attendance(*things)
        return caught.exception.kind

    def test_another_kind(self):
        others = ("boat", "Car", "CAR", "car ", " car", "cars", "ca", "at", "make", ["car"], ("car",), ("car", 1, 0, 0))
        for thing in ANY_THINGS + others:
            with self.subTest(thing=str(thing)[:40]):
                self.assertIs(self.refused(thing, 2), thing)
                self.assertIs(self.refused(thing, 1, 3), thing)

    def test_another_risk(self):
        for thing in ANY_THINGS + (5, 6, "2", [2], (2,), -2, -10 ** 59):
            if type(thing) is not int or thing not in (1, 2, 3, 4):
                for kind in KINDS:
                    with self.subTest(kind=kind, thing=str(thing)[:40]):
                        self.assertIsNone(self.refused(kind, thing))

    def test_truths_are_no_risks(self):
        self.assertIsNone(self.refused("house", True))
        self.assertIsNone(self.refused("house", False))

    def test_the_kind_goes_ahead_of_the_risk(self):
        for kind in ("boat", ["car"], 0, True, ()):
            for risk in (0, 5, True, None, "boat"):
                with self.subTest(kind=kind, risk=risk):
                    self.assertIs(self.refused(kind, risk), kind)

    def test_a_list_stays_as_it_was(self):
        thing = ["car", ["house"]]
        self.assertIs(self.refused(thing, thing), thing)
        self.assertEqual(thing, ["car", ["house"]])


class ReadCallTest(unittest.TestCase):

    def test_each_kind_without_a_number(self):
        for kind in KINDS:
            told = read_call(f"{kind} at mill")
            self.assertIs(type(told), tuple)
            self.assertEqual(told, (kind, "mill", 0))

    def test_each_kind_with_each_number(self):
        for kind in KINDS:
            for number in range(1, 21):
                told = read_call(f"{kind} at mill make {number}")
                self.assertEqual(told, (kind, "mill", number))
                self.assertIs(type(told[2]), int)

    def test_blanks_ahead_between_and_behind(self):
        texts = (" house at mill", "house at mill ", "house  at mill", "house at   mill", "    house   at  mill   ")
        for text in texts:
            with self.subTest(text=text):
                self.assertEqual(read_call(text), ("house", "mill", 0))
        self.assertEqual(read_call("  house  at  mill   make    20     "), ("house", "mill", 20))
        self.assertEqual(read_call(" " * 2900 + "car at a" + " " * 2900 + "make 7"), ("car", "a", 7))

    def test_letters_large_small_and_mixed(self):
        for text in ("HOUSE AT MILL MAKE 3", "house at mill make 3", "House At Mill Make 3", "hOUSE aT mIlL maKE 3"):
            with self.subTest(text=text):
                self.assertEqual(read_call(text), ("house", "mill", 3))
        self.assertEqual(read_call("CHIMNEY AT Z"), ("chimney", "z", 0))

    def test_places_are_any_names(self):
        for place in ("a", "z", "abcdefgh", "ABCDEFGH", "zzzzzzzz", "ijklmnop", "qrstuvwx", "yz"):
            with self.subTest(place=place):
                self.assertEqual(read_call(f"grass at {place}"), ("grass", place.lower(), 0))

    def test_words_of_its_own_tongue_as_places(self):
        for place in KINDS + ["at", "make", "AT", "Make"]:
            with self.subTest(place=place):
                self.assertEqual(read_call(f"works at {place}"), ("works", place.lower(), 0))
                self.assertEqual(read_call(f"works at {place} make 4"), ("works", place.lower(), 4))

    def test_by_name(self):
        self.assertEqual(read_call(text="people at quay"), ("people", "quay", 0))


class BadTextTest(unittest.TestCase):

    def check_refused(self, at, text):
        with self.assertRaises(BadText) as caught:
            read_call(text)
        self.assertIs(type(caught.exception.at), int)
        self.assertEqual(caught.exception.at, at)

    def test_too_few_words(self):
        for text in ("", " ", "   ", " " * 6000):
            self.check_refused(0, text)
        self.check_refused(1, "house")
        self.check_refused(1, "  HOUSE  ")
        self.check_refused(2, "house at")
        self.check_refused(2, " house at ")
        self.check_refused(4, "house at mill make")
        self.check_refused(4, "house at mill make   ")
        self.check_refused(4, "house at make make")

    def test_a_wrong_word_goes_ahead_of_too_few(self):
        self.check_refused(0, "boat")
        self.check_refused(0, "boat at")
        self.check_refused(1, "house mill")
        self.check_refused(3, "house at mill maek")
        self.check_refused(2, "house at m1ll make")
        self.check_refused(0, "at")
        self.check_refused(0, "make")

    def test_another_kind(self):
        for word in ("boat", "houses", "hous", "h", "at", "make", "mill", "7", "house,", "-", "x" * 5900, "carat"):
            with self.subTest(word=word[:40]):
                self.check_refused(0, f"{word} at mill")
                self.check_refused(0, f"  {word} at mill make 3")

    def test_another_word_for_at(self):
        for word in ("in", "a", "att", "make", "house", "@", "at,", "mill", "3"):
            with self.subTest(word=word):
                self.check_refused(1, f"house {word} mill")
                self.check_refused(1, f"house {word} mill make 3")
        self.check_refused(1, "house house at mill")
        self.check_refused(1, "house mill")

    def test_a_place_that_is_no_name(self):
        texts = [word for word in NOT_NAMES if isinstance(word, str) and word and " " not in word]
        # Large letters make a name when they are read as small ones.
        words = [word for word in texts if word not in ("A", "aB")]
        for word in words + ["mill,", "mill-", "3", "ABCDEFGHI", "mi.ll", "~", "!"]:
            with self.subTest(word=word[:40]):
                self.check_refused(2, f"house at {word}"[:6000])
        self.check_refused(2, "house at m1ll make 3")
        self.check_refused(2, "house at abcdefghi make 3")

    def test_another_word_for_make(self):
        for word in ("mak", "makes", "at", "3", "mill", "and", "x", "make3", "make,"):
            with self.subTest(word=word):
                self.check_refused(3, f"house at mill {word}")
                self.check_refused(3, f"house at mill {word} 3")
                self.check_refused(3, f"house at mill {word} 3 4 5")

    def test_other_numbers(self):
        words = (
            "0", "21", "22", "30", "99", "100", "200", "00", "01", "02", "09", "010", "020", "001",
            "1x", "x1", "+1", "-1", "1.0", "1,", "1_0", "0x1", "1e1", "x", "one", "make", "~", "'1'",
            "9" * 5900, "0" * 5900 + "1", "1" + "0" * 5900,
        )
        for word in words:
            with self.subTest(word=word[:40], length=len(word)):
                self.check_refused(4, f"house at mill make {word}")
                self.check_refused(4, f"house at mill make {word} more")

    def test_a_word_too_many(self):
        self.check_refused(5, "house at mill make 3 4")
        self.check_refused(5, "house at mill make 3 make 4")
        self.check_refused(5, "house at mill make 3 x y z  ")
        self.check_refused(3, "house at mill house")
        self.check_refused(3, "house at mill house at quay")

    def test_the_first_wrong_word(self):
        self.check_refused(0, "x x 1 x x x")
        self.check_refused(1, "house x 1 x x x")
        self.check_refused(2, "house at 1 x x x")
        self.check_refused(3, "house at mill x x x")
        self.check_refused(4, "house at mill make x x")

    def test_many_words(self):
        self.check_refused(3, "house at mill" + " x" * 2900)
        self.check_refused(5, "house at mill make 1" + " 1" * 2900)

    def test_only_blanks_stand_between_words(self):
        for sign in "_-,;.:/|~!#&+=":
            with self.subTest(sign=sign):
                self.check_refused(0, sign.join(["house", "at", "mill"]))

    def test_what_is_no_text(self):
        words = ("house", "at", "mill")
        for thing in ANY_THINGS + (words, list(words), ["house at mill"], ("house at mill",), ("house", "mill", 0)):
            if not isinstance(thing, str):
                with self.subTest(thing=str(thing)[:40]):
                    self.check_refused(-1, thing)


if __name__ == "__main__":
    unittest.main()
