"""Point 30: the texts of grounds, written and read."""

import random
import unittest

from tests.samples import ANY_THINGS, chance_parts, full_parts, small_ground, town
from whistleboard.errors import NoGround, NoText
from whistleboard.ground import Ground
from whistleboard.texts import read_ground

TEXT = "place b 2\nplace a 1\nroad a b 4 0\nstation a"
SIGNS = " 0123456789abz\n~A-+._"


def is_grounds(text):
    """Whether the text is some ground's: each row word by word, then made and written anew."""
    places, roads, stations = [], [], []
    try:
        for line in text.split("\n"):
            word, *rest = line.split(" ")
            if word == "place":
                name, risk = rest
                places.append((name, int(risk)))
            elif word == "road":
                start, goal, minutes, slow = rest
                roads.append((start, goal, int(minutes), int(slow)))
            else:
                name, = rest
                stations.append(name)
        return str(Ground(tuple(places), tuple(roads), tuple(stations))) == text
    except (ValueError, NoGround):
        return False


class GroundTextTest(unittest.TestCase):

    def check_refused(self, thing):
        with self.assertRaises(NoText) as caught:
            read_ground(thing)
        self.assertIs(type(caught.exception), NoText)

    def test_a_text(self):
        ground = read_ground(TEXT)
        self.assertIs(type(ground), Ground)
        self.assertTrue(ground == Ground((("b", 2), ("a", 1)), (("a", "b", 4, 0),), ("a",)))
        self.assertEqual(str(ground), TEXT)

    def test_what_is_written_is_read_to_the_same(self):
        grounds = [small_ground(), town(), Ground(*full_parts())]
        grounds += [Ground(*chance_parts(seed)) for seed in range(100)]
        for ground in grounds:
            again = read_ground(text=str(ground))
            self.assertTrue(again == ground)
            self.assertEqual(str(again), str(ground))
            # In the same order, too.
            values = (again.places, again.roads, again.stations)
            self.assertEqual(values, (ground.places, ground.roads, ground.stations))

    def test_without_roads_or_stations(self):
        for text in ("place a 1", "place a 1\nstation a", "place a 1\nplace b 4\nroad a b 60 60"):
            self.assertEqual(str(read_ground(text)), text)

    def test_things_that_are_no_texts(self):
        for thing in ANY_THINGS + ([TEXT], (TEXT,), TEXT.split("\n")):
            with self.subTest(thing=str(thing)[:40]):
                self.check_refused(thing)

    def test_no_ground(self):
        wrong = (
            "", "\n", " ", "place", "place a", "place a 0", "place a 5", "place A 1", "place a1 1", "place abcdefghi 1",
            "place a 1 1", "station a", "road a b 1 0", "place a 1\nplace a 1", "place a 1\nstation b",
            "place a 1\nstation a\nstation a", "place a 1\nroad a a 1 0", "place a 1\nroad a b 1 0",
            "place a 1\nplace b 1\nroad a b 0 0", "place a 1\nplace b 1\nroad a b 61 0",
            "place a 1\nplace b 1\nroad a b 1 61", "place a 1\nplace b 1\nroad a b 1 0\nroad b a 1 0",
            "place a 1\nplace b 1\nroad a b 1", "place a 1\nplace b 1\nroad a b 1 0 0", "Place a 1", "places a 1",
            "place a 1\nground a",
        )
        for text in wrong:
            with self.subTest(text=text):
                self.check_refused(text)

    def test_one_too_many(self):
        places = [f"place {name} 1" for name in [first + second for first in "abcdef" for second in "abcdefgh"]]
        read_ground("\n".join(places[:40]))
        self.check_refused("\n".join(places[:41]))

    def test_numbers(self):
        for number in ("01", "00", "+1", "-1", "1.0", "1_0", "a", "", "1e0", "10000000000", "9" * 11, "9" * 6000, "0001"):
            with self.subTest(number=number[:20]):
                self.check_refused(f"place a {number}")
                self.check_refused(f"place a 1\nplace b 1\nroad a b {number} 0")
                self.check_refused(f"place a 1\nplace b 1\nroad a b 1 {number}")

    def test_blanks_and_line_ends(self):
        for text in (TEXT + "\n", "\n" + TEXT, TEXT + " ", " " + TEXT, TEXT.replace("\n", "\n\n", 1),
                     TEXT.replace(" ", "  ", 1), TEXT.replace("\n", " \n", 1), TEXT.replace("\n", "\n ", 1),
                     TEXT.replace("\n", " "), TEXT.replace(" ", "\n")):
            with self.subTest(text=text):
                self.check_refused(text)

    def test_rows_out_of_order(self):
        rows = str(town()).split("\n")
        for at in range(len(rows) - 1):
            turned = rows[:at] + [rows[at + 1], rows[at]] + rows[at + 2:]
            if rows[at].split(" ")[0] == rows[at + 1].split(" ")[0]:
                self.assertTrue(read_ground("\n".join(turned)) == town())
            else:
                self.check_refused("\n".join(turned))
        self.check_refused("\n".join(rows[::-1]))

    def test_rows_left_out_or_twice(self):
        rows = TEXT.split("\n")
        for at in range(4):
            self.check_refused("\n".join(rows[:at + 1] + rows[at:]))
        for at in (0, 1):
            self.check_refused("\n".join(rows[:at] + rows[at + 1:]))
        for at in (2, 3):
            read_ground("\n".join(rows[:at] + rows[at + 1:]))

    def test_each_sign_put_otherwise_put_in_or_left_out(self):
        read = 0
        for at in range(len(TEXT) + 1):
            texts = [TEXT[:at] + TEXT[at + 1:]] + [TEXT[:at] + sign + TEXT[at:] for sign in SIGNS]
            texts += [TEXT[:at] + sign + TEXT[at + 1:] for sign in SIGNS]
            for text in texts:
                read += self.check_text(text)
        self.assertGreater(read, 50)

    def check_text(self, text):
        """It is read just where it is some ground's; how many are."""
        if is_grounds(text):
            self.assertEqual(str(read_ground(text)), text)
            return 1
        self.check_refused(text)
        return 0

    def test_words_put_otherwise(self):
        chance = random.Random(5)
        words = ["place", "road", "station", "a", "b", "c", "1", "2", "0", "60", "\n"]
        for again in range(3000):
            text = " ".join(chance.choices(words, k=chance.randint(1, 9))).replace(" \n ", "\n")
            self.check_text(text)


if __name__ == "__main__":
    unittest.main()
