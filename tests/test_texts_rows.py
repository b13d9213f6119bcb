"""Points 3 and 31: the texts of rows and books, written and read."""

import random
import unittest

from tests.samples import ANY_THINGS, NOT_NAMES, chance_room, town, town_engines
from tests.test_rows import TEXTS
from whistleboard.errors import NoText
from whistleboard.room import take_up
from whistleboard.rows import Row
from whistleboard.texts import read_book, read_row, show_book

ROW = "12 0 07:05 0 07:01 send redone 3 right 9"
NUMBERS = ("01", "00", "+1", "-1", "1.0", "a", "", "1_0", "10000000000", "9" * 11, "9" * 6000, "0001")
SIGNS = " 0123456789abz\n~A-:+"
LETTERS = "abcdefghijklmnopqrstuvwxyz"
FIGURES = [str(number) for number in range(1000)]
TIMES = {f"{minute // 1440} {minute % 1440 // 60:02d}:{minute % 60:02d}" for minute in range(10000)}


def is_rows(text):
    """Whether the text is some row's, word by word."""
    words = text.split(" ")
    sorts = {deed[0]: ["number" if isinstance(thing, int) else "name" for thing in deed[1:]] for deed, shown in TEXTS}
    if len(words) < 6 or words[5] not in sorts or not is_number(words[0], 1):
        return False
    if not is_time(words[1:3]) or not is_time(words[3:5]):
        return False
    need = sorts[words[5]]
    things, rest = words[6:6 + len(need)], words[6 + len(need):]
    if len(things) != len(need):
        return False
    for sort, word in zip(need, things):
        if not (is_number(word, 0) if sort == "number" else 1 <= len(word) <= 8 and set(word) <= set(LETTERS)):
            return False
    return rest == [] or (len(rest) == 2 and rest[0] == "right" and is_number(rest[1], 1))


def is_number(word, least):
    return word in FIGURES[least:]


def is_time(words):
    return " ".join(words) in TIMES


class RowCase(unittest.TestCase):

    def check_refused(self, thing):
        with self.assertRaises(NoText) as caught:
            read_row(thing)
        self.assertIs(type(caught.exception), NoText)


class RowTextTest(RowCase):

    def test_the_row_of_the_document(self):
        row = read_row(ROW)
        self.assertIs(type(row), Row)
        self.assertTrue(row == Row(12, 425, 421, ("send", "redone", 3), 9))
        self.assertEqual(str(row), ROW)
        self.assertIs(type(row.deed), tuple)

    def test_a_row_of_each_word(self):
        for deed, text in TEXTS:
            for right in (0, 1, 999):
                for number in (1, 999):
                    row = Row(number, 9999, 0, deed, right)
                    with self.subTest(row=str(row)):
                        self.assertTrue(read_row(text=str(row)) == row)
        self.assertEqual(read_row("1 0 00:00 0 00:00 nothing").deed, ("nothing",))

    def test_no_room_is_asked(self):
        for deed in (("call", "nowhere", "boat"), ("again", 0), ("again", 999), ("make", 999, 999), ("make", 0, 0),
                     ("send", "right", 999), ("stand", "send", "right"), ("shut", 999), ("clear", 0)):
            for right in (0, 5):
                row = Row(3, 5, 9, deed, right)
                self.assertTrue(read_row(str(row)) == row)

    def test_at_may_be_greater_than_written_and_right_than_the_number(self):
        row = read_row("1 0 00:00 6 22:39 nothing right 999")
        self.assertTrue(row == Row(1, 0, 9999, ("nothing",), 999))

    def test_things_that_are_no_texts(self):
        for thing in ANY_THINGS + ([ROW], (ROW,), read_row(ROW)):
            with self.subTest(thing=str(thing)[:40]):
                self.check_refused(thing)

    def test_its_number_and_right_from_1_to_999(self):
        for number in NUMBERS + ("0", "1000", "1001", "9999999999"):
            with self.subTest(number=number[:20]):
                self.check_refused(f"{number} 0 07:05 0 07:01 nothing")
                self.check_refused(f"1 0 07:05 0 07:01 nothing right {number}")

    def test_a_deeds_numbers_from_0_to_999(self):
        for number in NUMBERS + ("1000", "9999999999"):
            with self.subTest(number=number[:20]):
                for words in (f"again {number}", f"make {number} 1", f"make 1 {number}", f"stop {number}",
                              f"send redone {number}", f"shut {number}", f"clear {number}"):
                    self.check_refused(f"1 0 07:05 0 07:01 {words}")

    def test_a_deeds_names_are_names(self):
        for name in NOT_NAMES:
            if isinstance(name, str):
                for words in (f"call {name} car", f"call mill {name}", f"send {name} 1", f"there {name}",
                              f"stand {name} mill", f"lend redone {name}"):
                    with self.subTest(words=words[:40]):
                        self.check_refused(f"1 0 07:05 0 07:01 {words}")

    def test_times(self):
        for time in ("0 24:00", "0 07:60", "6 22:40", "7 00:00", "0 7:05", "00 07:05", "0 07.05", "0 0705", "-1 07:05",
                     "0", "07:05", "0 07:05 0"):
            self.check_refused(f"1 {time} 0 07:01 nothing")
            self.check_refused(f"1 0 07:05 {time} nothing")
        for time in ("0 00:00", "6 22:39", "5 23:59"):
            self.assertEqual(str(read_row(f"1 {time} {time} nothing")), f"1 {time} {time} nothing")

    def test_each_word_left_out_twice_or_exchanged(self):
        words = ROW.split(" ")
        for at in range(len(words)):
            self.check_refused(" ".join(words[:at] + words[at + 1:]))
            if words[at] not in ("0", "07:05"):
                self.check_refused(" ".join(words[:at + 1] + words[at:]))
            turned = words[:at] + words[at + 1:at + 2] + words[at:at + 1] + words[at + 2:]
            if turned != words:
                self.check_refused(" ".join(turned))

    def test_blanks_and_line_ends(self):
        for text in ("", " ", "\n", " " + ROW, ROW + " ", ROW + "\n", "\n" + ROW, ROW.replace(" ", "  ", 1),
                     ROW.replace(" ", "\n", 1), ROW + "\n" + ROW, ROW.replace(" right 9", " "), ROW + " right"):
            with self.subTest(text=text):
                self.check_refused(text)

    def test_words_behind_it(self):
        for more in (" right 0", " right", " 9", " right 9 9", " right 9 right 9", " Right 9", " nothing", " right nine"):
            self.check_refused("12 0 07:05 0 07:01 send redone 3" + more)

    def test_each_sign_put_otherwise_put_in_or_left_out(self):
        read = 0
        for at in range(len(ROW) + 1):
            texts = [ROW[:at] + ROW[at + 1:]] + [ROW[:at] + sign + ROW[at:] for sign in SIGNS]
            texts += [ROW[:at] + sign + ROW[at + 1:] for sign in SIGNS]
            for text in texts:
                if is_rows(text):
                    read += 1
                    self.assertEqual(str(read_row(text)), text)
                else:
                    self.check_refused(text)
        self.assertGreater(read, 100)


class BookTest(unittest.TestCase):

    def check_refused(self, thing):
        with self.assertRaises(NoText) as caught:
            read_book(thing)
        self.assertIs(type(caught.exception), NoText)

    def test_rows_with_line_ends_between(self):
        rows = [Row(1, 5, 4, ("call", "mill", "car")), Row(2, 6, 6, ("nothing",), 1)]
        text = "1 0 00:05 0 00:04 call mill car\n2 0 00:06 0 00:06 nothing right 1"
        self.assertEqual(show_book(rows), text)
        self.assertEqual(show_book(rows=rows[:1]), text.split("\n")[0])
        told = read_book(text=text)
        self.assertIs(type(told), list)
        self.assertEqual(told, rows)

    def test_no_rows(self):
        self.assertEqual(show_book([]), "")
        self.assertEqual(read_book(""), [])
        self.assertIs(type(read_book("")), list)

    def test_no_room_is_asked_for_their_numbers(self):
        rows = [Row(9, 5, 4, ("nothing",)), Row(9, 4, 4, ("nothing",)), Row(1, 3, 9, ("again", 0), 999)]
        self.assertEqual(read_book(show_book(rows)), rows)

    def test_what_is_written_is_read_to_the_same(self):
        for seed in range(40):
            room = chance_room(seed)
            rows = room.rows()
            kept = list(rows)
            again = read_book(show_book(rows))
            self.assertEqual(again, rows)
            self.assertEqual(rows, kept)
            self.assertTrue(take_up(town(), town_engines(), again) == room)

    def test_two_hundred_rows(self):
        rows = [Row(number, 9999, 9999, ("stand", "abcdefgh", "abcdefgh"), number - 1) for number in range(1, 201)]
        self.assertEqual(read_book(show_book(rows)), rows)

    def test_told_lists_are_the_askers_own(self):
        text = show_book(chance_room(1).rows())
        read_book(text).clear()
        self.assertEqual(show_book(read_book(text)), text)

    def test_things_that_are_no_texts(self):
        for thing in ANY_THINGS:
            if thing != "":
                with self.subTest(thing=str(thing)[:40]):
                    self.check_refused(thing)
        for thing in ([ROW], [], (), None, [read_row(ROW)]):
            self.check_refused(thing)

    def test_empty_rows(self):
        for text in ("\n", ROW + "\n", "\n" + ROW, ROW + "\n\n" + ROW, " ", ROW + "\n "):
            self.check_refused(text)

    def test_one_wrong_row(self):
        rows = show_book(chance_room(2).rows()).split("\n")
        chance = random.Random(2)
        for at in range(len(rows)):
            wrong = chance.choice((rows[at] + " ", " " + rows[at], "0" + rows[at], rows[at] + " x", rows[at][1:] + "~"))
            self.check_refused("\n".join(rows[:at] + [wrong] + rows[at + 1:]))

    def test_rows_left_out_or_exchanged_are_read_but_not_taken_up(self):
        rows = chance_room(4).rows()
        text = show_book(rows[:3] + rows[4:])
        self.assertEqual(read_book(text), rows[:3] + rows[4:])
        with self.assertRaises(ValueError):
            take_up(town(), town_engines(), read_book(text))


if __name__ == "__main__":
    unittest.main()
