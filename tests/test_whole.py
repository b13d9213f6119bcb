"""Points 2 and 3: what is promised over the whole program."""

import copy
import random
import unittest

from tests.samples import chance_room, town, town_engines
from tests.test_boards_air import chance_board
from whistleboard.boards import carried
from whistleboard.desk import Desk
from whistleboard.radio import Radio
from whistleboard.room import take_up
from whistleboard.sending import heard, look_nearest, nearest
from whistleboard.texts import read_book, read_ground, read_row, show_book


def told_by_radio(rows, chance):
    """The messages of the rows, one each: some lost and told again later, some doubled, in any order."""
    messages = [("room", row.number, str(row)) for row in rows]
    told = messages + chance.choices(messages, k=len(messages))
    chance.shuffle(told)
    return told


class RadioTest(unittest.TestCase):

    def test_a_book_told_by_radio_is_read_to_the_same_room(self):
        for seed in range(20):
            chance = random.Random(seed)
            room = chance_room(seed)
            radio = Radio()
            for message in told_by_radio(room.rows(), chance):
                radio.hears(*message)
            self.assertEqual((radio.missing("room"), len(radio)), ([], len(room)))
            again = take_up(town(), town_engines(), read_book("\n".join(radio.read("room"))))
            self.assertTrue(again == room)
            self.assertEqual(again.void(), room.void())

    def test_up_to_the_first_lack_it_is_the_room_of_that_time(self):
        chance = random.Random(7)
        room = chance_room(7)
        rows = room.rows()
        messages = told_by_radio(rows, chance)
        radio = Radio()
        for at, message in enumerate(messages):
            radio.hears(*message)
            heard_rows = [read_row(text) for text in radio.read("room")]
            numbers = {number for sender, number, text in messages[:at + 1]}
            many = min(set(range(1, len(rows) + 2)) - numbers) - 1
            self.assertEqual(heard_rows, rows[:many])
            self.assertEqual(radio.missing("room"), [number for number in range(1, max(numbers)) if number not in numbers])

    def test_a_row_that_was_heard_wrong_is_not_read(self):
        room = chance_room(3)
        radio = Radio()
        for row in room.rows():
            radio.hears("room", row.number, str(row))
        self.assertEqual(radio.hears("room", 5, "5 0 00:00 0 00:00 nothing"), "clash")
        self.assertEqual([read_row(text) for text in radio.read("room")], room.rows()[:4])
        self.assertEqual(radio.missing("room"), [5])


class TextTest(unittest.TestCase):

    def test_what_is_written_is_read_to_the_same(self):
        for seed in range(20):
            room = chance_room(seed)
            ground = read_ground(str(room.ground))
            again = take_up(ground, room.engines, read_book(show_book(room.rows())))
            self.assertTrue(again == room)
            self.assertEqual((str(again.ground), show_book(again.rows())), (str(room.ground), show_book(room.rows())))

    def test_a_desk_that_is_told_the_book_row_by_row(self):
        for seed in range(10):
            room = chance_room(seed)
            desk = Desk(town(), town_engines())
            for row in room.rows():
                number, day, clock, at_day, at_clock, *deed = str(row).split(" ")
                deed = deed if row.right == 0 else deed[:-2]
                told = desk.say(" ".join(["right", str(row.right), day, clock, at_day, at_clock] + deed))
                self.assertEqual(told, f"ok {row.number}")
            self.assertEqual(desk.say("book"), show_book(room.rows()))


class CallTest(unittest.TestCase):

    def test_a_call_told_twice_is_one_call(self):
        room = take_up(town(), town_engines(), [])
        for minute in (600, 605, 620, 630):
            room.write(minute, minute, heard(room, "mart", "house", minute))
        self.assertEqual((room.calls(), [row.deed[0] for row in room.rows()]), ([1], ["call", "again", "again", "again"]))

    def test_nearest_ones_are_sent_till_nothing_lacks_or_none_is_free(self):
        for seed in range(10):
            room = chance_room(seed)
            last = room.rows()[-1].written
            for number in room.calls(last):
                told = nearest(room, number, last)
                look_nearest(room, number, last, told)
                for engine, minutes in told:
                    room.write(last, last, ("send", engine, number))
                self.assertEqual(nearest(room, number, last), [])


class BoardTest(unittest.TestCase):

    def test_nobody_is_told_as_out_who_is_in(self):
        for seed in range(60):
            board = chance_board(seed)
            due = {}
            for row in board.rows():
                if row[0] == "in":
                    due[row[2]] = [name for name, bar, litres in row[5]]
                elif row[0] in ("out", "seen"):
                    due[row[2]].remove(row[3])
            told = {team: names for team, door, names in board.inside()}
            self.assertEqual(told, {team: names for team, names in due.items() if names})
            self.assertEqual(len(board), sum([len(names) for names in due.values()]))

    def test_no_whistle_comes_later_than_the_cylinder_allows(self):
        asked = 0
        for seed in range(60):
            board = chance_board(seed)
            last = board.rows()[-1][1]
            for team, door, names in board.inside():
                whistle = board.whistle(team)
                litres = {name: litres for row in board.rows() if row[0] == "in" and row[2] == team
                          for name, bar, litres in row[5]}
                if whistle > last:
                    asked += 1
                    for name in names:
                        self.assertGreaterEqual(board.content(team, name, whistle), board.reserve * litres[name])
                    later = [board.content(team, name, whistle + 1) < board.reserve * litres[name] for name in names]
                    self.assertIn(True, later)
        self.assertGreater(asked, 10)

    def test_a_second_hand_goes_on_as_the_first(self):
        for seed in range(20):
            board = chance_board(seed)
            again = carried(board.reserve, board.rows())
            last = board.rows()[-1][1]
            for one in (board, again):
                one.enter("zulu", last, (("zoe", 200, 6),))
                one.loses("zulu", "zoe", last + 1)
            self.assertTrue(board == again)


class HandedInTest(unittest.TestCase):

    def test_lists_handed_in_may_be_changed_behind_the_call(self):
        room = chance_room(5)
        rows = room.rows()
        again = take_up(town(), town_engines(), rows)
        text = show_book(rows)
        rows.reverse()
        rows.pop()
        self.assertTrue(again == room)
        self.assertEqual(show_book(again.rows()), text)
        board = chance_board(5)
        told = board.rows()
        kept = copy.deepcopy(told)
        other = carried(board.reserve, told)
        told.clear()
        self.assertEqual((other.rows(), board.rows()), (kept, kept))


if __name__ == "__main__":
    unittest.main()
