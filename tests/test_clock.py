"""Point 4: minutes and their texts."""

import unittest

from tests.samples import ANY_THINGS
from whistleboard.clock import hour_of, read_time, shown
from whistleboard.errors import BadTime

TEXTS = (
    (0, "0 00:00"),
    (1, "0 00:01"),
    (9, "0 00:09"),
    (10, "0 00:10"),
    (59, "0 00:59"),
    (60, "0 01:00"),
    (425, "0 07:05"),
    (599, "0 09:59"),
    (600, "0 10:00"),
    (1379, "0 22:59"),
    (1380, "0 23:00"),
    (1439, "0 23:59"),
    (1440, "1 00:00"),
    (2879, "1 23:59"),
    (2880, "2 00:00"),
    (8639, "5 23:59"),
    (8640, "6 00:00"),
    (9998, "6 22:38"),
    (9999, "6 22:39"),
)

NEARLY = (
    "0 07:05 ", " 0 07:05", "0  07:05", "0 07:05\n", "0\t07:05", "0 07: 05", "0 07 :05",
    "0 7:05", "0 07:5", "0 007:05", "0 07:005", "00 07:05", "07:05", "0 07:", "0 :05", " 07:05", "007:05",
    "0 07.05", "0 07-05", "0 07 05", "0-07:05", "0:07:05", "0 07:0", "0 07:05:00", "0_07:05", "0,07:05",
    "a 07:05", "0 a7:05", "0 0a:05", "0 07:a5", "0 07:0a", "- 07:05", "+ 07:05",
    "-1 07:05", "+0 07:05", "0 -7:05", "0 +7:05", "0 07:-5", "0 07:+5", "0  7:05", "0 07: 5", "0 7 :05", "0 1_:05",
    "0 24:00", "0 25:00", "0 99:00", "0 07:60", "0 07:99", "0 23:60", "1 24:00",
    "6 22:40", "6 22:59", "6 23:00", "6 23:59", "7 00:00", "8 00:00", "9 23:59", "10 00:00", "12 00:00",
    "", " ", ":", "0", "0 ", "0000000", "       ", "0 07:05 0 07:05", "0 07:05x", "x0 07:05",
    "0" * 6000, "9" * 6000, " " * 6000, "0 07:05" + " " * 5993, "0" * 5000 + " 07:05", "0 07:" + "0" * 5000 + "5",
)


class ShownTest(unittest.TestCase):

    def test_minutes_at_the_borders(self):
        for minute, text in TEXTS:
            with self.subTest(minute=minute):
                self.assertEqual(shown(minute), text)

    def test_by_name(self):
        self.assertEqual(shown(minute=425), "0 07:05")


class HourTest(unittest.TestCase):

    def test_each_day_begins_anew(self):
        for minute, hour in ((0, 0), (59, 0), (60, 1), (1439, 23), (1440, 0), (1500, 1), (9999, 22)):
            with self.subTest(minute=minute):
                self.assertEqual(hour_of(minute), hour)


class ReadTimeTest(unittest.TestCase):

    def test_texts_at_the_borders(self):
        for minute, text in TEXTS:
            with self.subTest(text=text):
                self.assertEqual(read_time(text), minute)

    def test_each_minute_is_read_to_the_same(self):
        for minute in range(10000):
            self.assertEqual(read_time(shown(minute)), minute)

    def test_by_name(self):
        self.assertEqual(read_time(text="0 07:05"), 425)

    def test_what_is_nearly_a_minutes_text(self):
        for text in NEARLY:
            with self.subTest(text=text[:40], length=len(text)), self.assertRaises(BadTime):
                read_time(text)

    def test_each_text_of_this_form_is_read_or_refused(self):
        known = {shown(minute): minute for minute in range(10000)}
        for day in range(10):
            for hour in range(0, 30):
                for minute in (0, 5, 38, 39, 40, 59, 60, 61, 99):
                    text = f"{day} {hour:02d}:{minute:02d}"
                    if text in known:
                        self.assertEqual(read_time(text), known[text])
                    else:
                        with self.assertRaises(BadTime):
                            read_time(text)

    def test_one_other_sign_anywhere(self):
        signs = [chr(code) for code in range(32, 127) if chr(code) != "%"]
        known = {shown(minute): minute for minute in range(10000)}
        for at in range(7):
            for sign in signs:
                text = "3 12:34"[:at] + sign + "3 12:34"[at + 1:]
                if text in known:
                    self.assertEqual(read_time(text), known[text])
                else:
                    with self.assertRaises(BadTime):
                        read_time(text)

    def test_any_thing_else(self):
        things = ANY_THINGS + (425, ["0 07:05"], ("0 07:05",), list("0 07:05"), tuple("0 07:05"), (0, 7, 5))
        for thing in things:
            with self.subTest(thing=str(thing)[:40]), self.assertRaises(BadTime):
                read_time(thing)


if __name__ == "__main__":
    unittest.main()
