"""Points 15 and 16: rows written in time, late, and putting right, and each refusal in its order."""

import copy
import unittest

from tests.samples import ANY_THINGS, town, town_engines, written_room
from whistleboard.errors import BadTime, NoDeed, NoRow, NotDone, TooMany
from whistleboard.room import Room
from whistleboard.rows import Row

CALL = ("call", "mart", "house")
NOTHING = ("nothing",)
NO_MINUTES = [thing for thing in ANY_THINGS if type(thing) is not int] + [-1, 10000, 10 ** 59, -10 ** 59, "5", [5], (5,)]
NO_DEEDS = (None, 5, "nothing", ["nothing"], (), ("nothing", 1), ("send", "red", 1), ("make", 1, 0), ("shut", 5))


def full_room():
    """A room with two hundred rows: a call, then nothing."""
    room = Room(town(), town_engines())
    room.write(3, 3, CALL)
    for again in range(199):
        room.write(3, 3, NOTHING)
    return room


class WrittenCase(unittest.TestCase):

    def check_refused(self, refusal, room, *things):
        """The refusal is made, and nothing is changed."""
        rows, kept = room.rows(), copy.deepcopy(things)
        with self.assertRaises(refusal) as caught:
            room.write(*things)
        self.assertIs(type(caught.exception), refusal)
        self.assertEqual(room.rows(), rows)
        self.assertEqual(things, kept)
        return caught.exception


class ToldTest(WrittenCase):

    def test_told_is_the_row(self):
        room = Room(town(), town_engines())
        self.assertEqual(room.write(9, 4, CALL), Row(1, 9, 4, CALL, 0))
        self.assertEqual(room.write(9, 9, ("make", 1, 3), 0), Row(2, 9, 9, ("make", 1, 3), 0))
        self.assertEqual(room.write(9, 5, ("make", 1, 4), 2), Row(3, 9, 5, ("make", 1, 4), 2))
        told = [Row(1, 9, 4, CALL), Row(2, 9, 9, ("make", 1, 3)), Row(3, 9, 5, ("make", 1, 4), 2)]
        self.assertEqual(room.rows(), told)
        self.assertIs(type(room.write(9, 9, NOTHING)), Row)

    def test_the_bounds_of_the_watch(self):
        room = Room(town(), town_engines())
        room.write(0, 0, CALL)
        room.write(9999, 9999, ("again", 1))
        room.write(9999, 0, ("again", 1))
        self.assertEqual([(row.written, row.at) for row in room.rows()], [(0, 0), (9999, 9999), (9999, 0)])

    def test_rows_are_never_changed(self):
        room = written_room([(1, CALL), (2, ("make", 1, 3)), (3, ("send", "wet", 1))])
        kept = [Row(1, 1, 1, CALL), Row(2, 2, 2, ("make", 1, 3)), Row(3, 3, 3, ("send", "wet", 1))]
        room.write(4, 1, NOTHING, 1)
        room.write(4, 3, NOTHING, 3)
        self.assertEqual(room.rows()[:3], kept)
        self.assertEqual(room.void(), [(2, "call")])


class DeedTest(WrittenCase):

    def test_what_is_no_deed(self):
        room = written_room([(1, CALL)])
        for thing in ANY_THINGS + NO_DEEDS:
            with self.subTest(thing=str(thing)[:40]):
                self.check_refused(NoDeed, room, 5, 5, thing)

    def test_its_fault_is_told(self):
        room = written_room([(1, CALL)])
        faults = ((("call", "nowhere", "house"), 1), (("call", "mart", "boat"), 2), (("send", "redone", 0), 2))
        for deed, at in faults + ((["nothing"], 0), (("shut", 5), 1), (("shut", True), 1), (("stand", "wet", "far"), 2)):
            with self.subTest(deed=deed):
                self.assertEqual(self.check_refused(NoDeed, room, 5, 5, deed).at, at)

    def test_it_goes_ahead_of_all_else(self):
        for deed in NO_DEEDS:
            self.check_refused(NoDeed, full_room(), None, -1, deed, [None])
            self.check_refused(NoDeed, full_room(), 9, 9, deed)


class TimeTest(WrittenCase):

    def test_what_is_no_minute(self):
        room = written_room([(1, CALL)])
        for thing in NO_MINUTES:
            with self.subTest(thing=str(thing)[:40]):
                self.check_refused(BadTime, room, 5, thing, NOTHING)
                self.check_refused(BadTime, room, thing, 5, NOTHING)
                self.check_refused(BadTime, room, thing, thing, NOTHING)

    def test_truths_are_no_minutes_in_an_empty_book(self):
        room = Room(town(), town_engines())
        for written, at in ((True, 0), (1, True), (1, False), (False, 0), (0, False)):
            self.check_refused(BadTime, room, written, at, NOTHING)

    def test_at_greater_than_written(self):
        room = Room(town(), town_engines())
        self.check_refused(BadTime, room, 5, 6, CALL)
        room.write(5, 5, CALL)
        self.check_refused(BadTime, room, 9, 10, NOTHING)
        room.write(9, 9, NOTHING)

    def test_written_less_than_that_of_the_last_row(self):
        room = written_room([(1, CALL), (7, NOTHING)])
        self.check_refused(BadTime, room, 6, 6, NOTHING)
        self.check_refused(BadTime, room, 6, 1, NOTHING)
        room.write(7, 2, NOTHING)
        # The last row speaks of minute 2, but was written at minute 7.
        self.check_refused(BadTime, room, 6, 2, NOTHING)
        room.write(7, 7, NOTHING)
        room.write(8, 0, NOTHING)

    def test_written_less_than_that_of_a_dead_last_row(self):
        room = written_room([(1, CALL), (7, NOTHING)])
        room.write(7, 7, NOTHING, 2)
        self.check_refused(BadTime, room, 6, 6, NOTHING)

    def test_it_goes_ahead_of_what_is_told_behind_it(self):
        room = full_room()
        for written, at in ((2, 2), (5, 6), (None, 5), (5, True)):
            self.check_refused(BadTime, room, written, at, ("again", 9), 999)
            self.check_refused(BadTime, room, written, at, NOTHING)
            self.check_refused(BadTime, written_room([(3, CALL)]), written, at, ("again", 9))


class RightTest(WrittenCase):

    def test_what_is_no_number_of_a_row(self):
        room = written_room([(1, CALL), (2, NOTHING)])
        for thing in [thing for thing in ANY_THINGS if type(thing) is not int] + [3, -1, 200, 10 ** 59, "1", [1], (1,)]:
            with self.subTest(thing=str(thing)[:40]):
                self.assertEqual(self.check_refused(NoRow, room, 5, 5, NOTHING, thing).number, thing)
                with self.assertRaises(NoRow) as caught:
                    room.write(5, 5, NOTHING, thing)
                self.assertIs(caught.exception.number, thing)

    def test_truths_in_a_book_where_their_numbers_are_let(self):
        room = written_room([(1, CALL)])
        for thing in (True, False):
            self.assertIs(self.check_refused(NoRow, room, 5, 5, NOTHING, thing).number, thing)

    def test_a_dead_row(self):
        room = written_room([(1, CALL), (2, NOTHING)])
        room.write(3, 3, NOTHING, 2)
        self.assertEqual(self.check_refused(NoRow, room, 5, 5, NOTHING, 2).number, 2)
        room.write(4, 4, NOTHING, 3)
        for number in (2, 3):
            self.assertEqual(self.check_refused(NoRow, room, 5, 5, NOTHING, number).number, number)
        room.write(5, 5, NOTHING, 4)

    def test_the_row_itself_is_no_elder_one(self):
        room = written_room([(1, CALL)])
        self.check_refused(NoRow, room, 5, 5, NOTHING, 2)
        self.check_refused(NoRow, Room(town(), town_engines()), 5, 5, NOTHING, 1)

    def test_a_void_row_may_be_put_right(self):
        room = written_room([(1, CALL), (5, ("again", 1))])
        room.write(6, 3, ("stop", 1))
        self.assertEqual(room.void(), [(2, "call")])
        room.write(6, 5, NOTHING, 2)
        self.assertEqual(room.void(), [])

    def test_it_goes_ahead_of_what_is_told_behind_it(self):
        room = full_room()
        for right in (201, True, None, "1"):
            self.check_refused(NoRow, room, 5, 5, ("again", 9), right)
            self.check_refused(NoRow, written_room([(1, CALL)]), 5, 5, ("again", 9), right)


class ManyTest(WrittenCase):

    def test_two_hundred_rows_and_one_more(self):
        room = full_room()
        self.assertEqual(len(room), 200)
        self.check_refused(TooMany, room, 5, 5, NOTHING)
        self.check_refused(TooMany, room, 5, 5, NOTHING, 200)
        self.check_refused(TooMany, room, 5, 5, ("again", 1))

    def test_dead_rows_count(self):
        room = Room(town(), town_engines())
        for number in range(200):
            room.write(3, 3, NOTHING, number)
        self.check_refused(TooMany, room, 5, 5, NOTHING, 200)

    def test_it_goes_ahead_of_what_cant_be_done(self):
        self.check_refused(TooMany, full_room(), 5, 5, ("again", 9))


class DoneTest(WrittenCase):

    def test_in_the_state_of_its_own_minute(self):
        room = written_room([(10, CALL), (20, ("send", "redone", 1)), (30, ("there", "redone"))])
        self.assertEqual(self.check_refused(NotDone, room, 40, 19, ("back", "redone")).why, "engine")
        self.assertEqual(self.check_refused(NotDone, room, 40, 9, ("again", 1)).why, "call")
        room.write(40, 10, ("again", 1))
        room.write(40, 25, ("back", "redone"))
        self.assertEqual(room.void(), [(3, "engine")])

    def test_it_stands_behind_those_of_its_minute(self):
        room = written_room([(10, CALL), (10, ("stop", 1))])
        self.assertEqual(self.check_refused(NotDone, room, 10, 10, ("again", 1)).why, "call")
        room = written_room([(10, CALL), (10, ("send", "redone", 1)), (11, ("there", "redone"))])
        room.write(12, 10, ("back", "redone"))
        self.assertEqual(room.void(), [(3, "engine")])
        self.assertEqual(room.engine("redone", 10), ("back", "mill", "mill", 0))

    def test_without_the_one_that_it_puts_right(self):
        room = written_room([(10, CALL), (11, ("send", "redone", 1))])
        self.assertEqual(self.check_refused(NotDone, room, 12, 12, ("off", "redone")).why, "engine")
        room.write(12, 12, ("off", "redone"), 2)
        self.assertEqual(room.engine("redone"), ("off", "mill", "mill", 0))

    def test_what_hangs_on_the_one_that_it_puts_right_cant_be_done(self):
        room = written_room([(10, CALL), (11, ("send", "redone", 1))])
        self.assertEqual(self.check_refused(NotDone, room, 12, 12, ("there", "redone"), 2).why, "engine")
        self.assertEqual(self.check_refused(NotDone, room, 12, 12, ("again", 1), 1).why, "call")
        room.write(12, 12, ("again", 1), 2)

    def test_void_rows_are_passed_over(self):
        room = written_room([(10, CALL), (20, ("send", "redone", 1)), (30, ("there", "redone"))])
        room.write(40, 15, ("stop", 1))
        self.assertEqual(room.void(), [(2, "call"), (3, "engine")])
        self.assertEqual(self.check_refused(NotDone, room, 40, 40, ("back", "redone")).why, "engine")
        room.write(40, 40, ("off", "redone"))

    def test_later_rows_do_not_hinder(self):
        room = written_room([(10, CALL), (20, ("stop", 1))])
        room.write(30, 19, ("send", "redone", 1))
        self.assertEqual(room.engine("redone", 19), ("sent", "mill", "mill", 1))
        self.assertEqual(room.engine("redone"), ("back", "mill", "mill", 0))


if __name__ == "__main__":
    unittest.main()
