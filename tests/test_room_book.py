"""Points 3, 17 and 18: living, dead and void rows, chains, and rooms taken up out of their rows."""

import copy
import random
import unittest

from tests.model import CantBe, Model
from tests.samples import ANY_THINGS, any_deed, chance_room, small_engines, town, town_engines, written_room
from whistleboard.errors import NoBook, NoCall, NoEngines, NoRow, NotDone
from whistleboard.ground import Ground
from whistleboard.room import Room, take_up
from whistleboard.rows import Row

CALL = ("call", "mart", "house")
NOTHING = ("nothing",)
MINUTES = (None, 0, 1, 12, 40, 99, 150, 300, 500, 9999)
CHANCE_ROOMS = 40


class VoidTest(unittest.TestCase):

    def test_a_row_becomes_void_by_a_later_one_and_comes_to_life_again(self):
        room = written_room([(10, CALL), (20, ("send", "redone", 1)), (30, ("there", "redone"))])
        row = room.write(40, 15, ("off", "redone"))
        self.assertEqual(room.void(), [(2, "engine"), (3, "engine")])
        self.assertEqual(room.engine("redone"), ("off", "mill", "mill", 0))
        room.write(41, 41, NOTHING, row.number)
        self.assertEqual(room.void(), [])
        self.assertEqual(room.engine("redone"), ("there", "mart", "mill", 1))

    def test_by_minutes_then_by_numbers_with_their_texts(self):
        room = written_room([
            (10, CALL), (20, ("send", "wet", 1)), (20, ("make", 1, 3)), (20, ("stand", "tall", "mill")),
            (30, ("shut", 2)), (31, ("clear", 2)),
        ])
        room.write(40, 25, ("again", 1))
        room.write(40, 11, ("stop", 1))
        room.write(40, 12, ("stand", "tall", "mill"))
        room.write(40, 26, ("shut", 2))
        room.write(40, 27, ("clear", 2))
        room.write(40, 30, ("clear", 2))
        self.assertEqual(
            room.void(), [(2, "call"), (3, "call"), (4, "station"), (7, "call"), (6, "road")]
        )
        self.assertIs(type(room.void()[0]), tuple)

    def test_void_rows_change_nothing(self):
        room = written_room([(10, CALL), (20, ("send", "wet", 1)), (30, ("make", 1, 9))])
        room.write(40, 15, ("stop", 1))
        self.assertEqual(room.engine("wet"), ("home", "mill", "mill", 0))
        self.assertEqual(room.call(1), ("mart", "house", 10, 0, False, []))

    def test_a_dead_row_is_not_void(self):
        room = written_room([(10, CALL), (20, ("again", 1))])
        room.write(30, 15, ("stop", 1))
        self.assertEqual(room.void(), [(2, "call")])
        room.write(31, 12, ("again", 1), 2)
        self.assertEqual(room.void(), [])

    def test_the_state_at_each_minute(self):
        room = written_room([(10, CALL), (20, ("send", "wet", 1)), (30, ("there", "wet"))])
        room.write(40, 25, ("back", "wet"))
        room.write(40, 18, ("shut", 1))
        told = [(room.engine("wet", at)[0], room.shut(at)) for at in (9, 17, 18, 20, 24, 25, 30, 9999)]
        self.assertEqual(told, [
            ("home", []), ("home", []), ("home", [1]), ("sent", [1]), ("sent", [1]), ("back", [1]), ("back", [1]),
            ("back", [1]),
        ])


class ChainTest(unittest.TestCase):

    def test_a_call_put_right_keeps_the_number_of_its_chains_first_row(self):
        room = written_room([(10, CALL), (11, ("send", "redone", 1))])
        room.write(12, 9, ("call", "quay", "car"), 1)
        self.assertEqual(room.call(1), ("quay", "car", 9, 0, True, ["redone"]))
        self.assertEqual((room.calls(), room.void()), ([1], []))
        room.write(13, 10, ("call", "hill", "works"), 3)
        self.assertEqual(room.call(1), ("hill", "works", 10, 0, True, ["redone"]))
        self.assertEqual(room.calls(), [1])
        for number in (3, 4):
            with self.assertRaises(NoCall):
                room.call(number)

    def test_a_row_that_was_no_call(self):
        room = written_room([(10, NOTHING), (11, NOTHING)])
        room.write(12, 12, ("shut", 0), 2)
        room.write(13, 13, CALL, 3)
        self.assertEqual(room.calls(), [2])
        room.write(13, 13, ("again", 2))
        room.write(14, 14, NOTHING, 4)
        self.assertEqual((room.calls(), room.void()), ([], [(5, "call")]))
        room.write(15, 13, CALL, 6)
        self.assertEqual((room.calls(), room.void()), ([2], [(5, "call")]))
        room.write(16, 12, CALL, 7)
        self.assertEqual((room.calls(), room.void()), ([2], []))

    def test_a_call_that_was_put_right_is_gone(self):
        room = written_room([(10, CALL), (11, ("send", "redone", 1))])
        room.write(12, 12, NOTHING, 1)
        self.assertEqual((room.calls(), room.void()), ([], [(2, "call")]))
        with self.assertRaises(NoCall):
            room.call(1)
        with self.assertRaises(NoCall):
            room.call(1, 10)

    def test_a_dead_row_is_dead_at_minutes_ahead_of_the_one_that_puts_it_right(self):
        room = written_room([(10, CALL)])
        room.write(50, 40, ("call", "quay", "car"), 1)
        self.assertEqual([room.calls(at) for at in (9, 10, 39, 40)], [[], [], [], [1]])

    def test_a_long_chain(self):
        room = Room(town(), town_engines())
        room.write(1, 1, CALL)
        for number in range(1, 200):
            room.write(1, 1, ("call", "quay", "car") if number % 2 else CALL, number)
        self.assertEqual((room.calls(), room.void(), len(room)), ([1], [], 200))
        self.assertEqual(room.call(1), ("quay", "car", 1, 0, True, []))


class ModelTest(unittest.TestCase):

    def check_state(self, room, at):
        model = Model(room.engines, room.rows(), at)
        self.assertEqual(room.calls(at), model.told_calls())
        self.assertEqual(room.shut(at), model.told_shut())
        for name, sort, station, seats in room.engines:
            self.assertEqual(room.engine(name, at), model.told_engine(name))
        for number in range(len(room) + 2):
            if number in model.calls:
                self.assertEqual(room.call(number, at), model.told_call(number))
            else:
                with self.assertRaises(NoCall):
                    room.call(number, at)
        return model

    def test_the_room_is_what_its_living_rows_tell(self):
        void = 0
        for seed in range(CHANCE_ROOMS):
            room = chance_room(seed)
            with self.subTest(seed=seed):
                for at in MINUTES:
                    self.check_state(room, at)
                self.assertEqual(room.void(), self.check_state(room, None).void)
                void += len(room.void())
        # There were such rows at all.
        self.assertGreater(void, CHANCE_ROOMS)

    def test_what_can_be_done_is_written_and_what_cant_be_isnt(self):
        for seed in range(CHANCE_ROOMS):
            room = chance_room(seed, 30)
            chance = random.Random(seed)
            rows = room.rows()
            written = rows[-1].written
            for again in range(20):
                at = chance.randint(0, written)
                deed = any_deed(chance, room.ground, room.engines, room.calls(at))
                living = [0] + [row.number for row in rows if row.number not in [other.right for other in rows]]
                right = chance.choice(living)
                next_row = Row(len(rows) + 1, written, at, deed, right)
                with self.subTest(seed=seed, row=str(next_row)):
                    self.check_writing(take_up(town(), town_engines(), rows), next_row)

    def check_writing(self, room, row):
        """The row is written, or refused, as the model of the rows ahead of it tells."""
        rows = room.rows()
        dead = [other.right for other in rows] + [row.right]
        ahead = Model(room.engines, [])
        for other in sorted(rows, key=lambda told: (told.at, told.number)):
            if other.number not in dead and other.at <= row.at:
                ahead.play(other, rows)
        why = None
        try:
            ahead.do(row.deed, row.at, row.number)
        except CantBe as refusal:
            why = refusal.why
        if why is None:
            self.assertEqual(room.write(row.written, row.at, row.deed, row.right), row)
            self.assertEqual(room.rows(), rows + [row])
        else:
            with self.assertRaises(NotDone) as caught:
                room.write(row.written, row.at, row.deed, row.right)
            self.assertEqual((caught.exception.why, room.rows()), (why, rows))

    def test_each_engine_is_under_at_most_one_call(self):
        for seed in range(CHANCE_ROOMS):
            room = chance_room(seed)
            for at in MINUTES:
                under = [name for number in room.calls(at) for name in room.call(number, at)[5]]
                self.assertEqual(len(under), len(set(under)))
                for name, sort, station, seats in room.engines:
                    word, place, own, call = room.engine(name, at)
                    self.assertEqual(word in ("sent", "there"), call != 0)
                    self.assertEqual(call != 0, name in under)
                    self.assertIn(place, [told[0] for told in room.ground.places])


class TakenUpTest(unittest.TestCase):

    def check_refused(self, thing, number):
        kept = copy.copy(thing)
        with self.assertRaises(NoBook) as caught:
            take_up(town(), town_engines(), thing)
        self.assertEqual(caught.exception.number, number)
        self.assertEqual(thing, kept)

    def test_out_of_its_rows_it_is_the_same(self):
        for seed in range(CHANCE_ROOMS):
            room = chance_room(seed)
            again = take_up(town(), town_engines(), room.rows())
            with self.subTest(seed=seed):
                self.assertTrue(room == again)
                self.assertEqual(again.rows(), room.rows())
                self.assertEqual(again.void(), room.void())
                for at in MINUTES:
                    self.assertEqual((again.calls(at), again.shut(at)), (room.calls(at), room.shut(at)))
                    for name, sort, station, seats in room.engines:
                        self.assertEqual(again.engine(name, at), room.engine(name, at))

    def test_at_any_time(self):
        rows = chance_room(3).rows()
        for many in range(len(rows) + 1):
            self.assertEqual(take_up(town(), town_engines(), rows[:many]).rows(), rows[:many])

    def test_no_rows(self):
        self.assertTrue(take_up(town(), town_engines(), []) == Room(town(), town_engines()))
        self.assertEqual(take_up(thing=[], engines=(), ground=town()).rows(), [])

    def test_it_goes_on_alone(self):
        room = written_room([(10, CALL)])
        rows = room.rows()
        again = take_up(town(), town_engines(), rows)
        room.write(11, 11, ("stop", 1))
        rows.clear()
        self.assertEqual((again.calls(), len(again)), ([1], 1))
        again.write(11, 11, ("make", 1, 2))
        self.assertEqual(room.call(1)[3], 0)

    def test_a_thing_that_is_no_list(self):
        for thing in ANY_THINGS:
            if not isinstance(thing, list):
                with self.subTest(thing=str(thing)[:40]):
                    self.check_refused(thing, 0)
        self.check_refused((Row(1, 1, 1, CALL),), 0)
        self.check_refused(Row(1, 1, 1, CALL), 0)

    def test_a_list_of_any_things(self):
        for thing in ANY_THINGS + ((1, 1, 1, CALL, 0), "1 0 00:01 0 00:01 nothing", [Row(1, 1, 1, CALL)]):
            with self.subTest(thing=str(thing)[:40]):
                self.check_refused([thing], 1)
                self.check_refused([Row(1, 1, 1, CALL), thing], 2)
                self.check_refused([thing, Row(2, 1, 1, CALL)], 1)

    def test_one_row_with_any_thing_in_it(self):
        rows = [Row(1, 5, 5, CALL), Row(2, 6, 6, ("send", "wet", 1)), Row(3, 7, 6, NOTHING, 2)]
        fine = {"number": (2,), "written": range(6, 10000), "at": range(7), "deed": (), "right": (0, 1)}
        for name in ("number", "written", "at", "deed", "right"):
            for thing in ANY_THINGS + (3, 5, 6, 7, -1, 200, 9999, 10000, ["send", "wet", 1], ("send", "wet", True)):
                values = {"number": 2, "written": 6, "at": 6, "deed": NOTHING, "right": 0}
                values[name] = thing
                with self.subTest(name=name, thing=str(thing)[:40]):
                    if type(thing) is int and thing in fine[name]:
                        take_up(town(), town_engines(), rows[:1] + [Row(**values)])
                    else:
                        self.check_refused(rows[:1] + [Row(**values)] + rows[2:], 2)

    def test_truths_for_numbers(self):
        self.check_refused([Row(True, 5, 5, CALL)], 1)
        self.check_refused([Row(1, True, 1, CALL)], 1)
        self.check_refused([Row(1, 1, True, CALL)], 1)
        self.check_refused([Row(1, 1, 1, CALL, False)], 1)
        self.check_refused([Row(1, 1, 1, CALL), Row(2, 1, 1, CALL, True)], 2)

    def test_a_row_left_out_twice_or_exchanged(self):
        rows = written_room([(10, CALL), (11, ("send", "wet", 1)), (12, ("there", "wet")), (13, NOTHING)]).rows()
        for at in range(3):
            self.check_refused(rows[:at] + rows[at + 1:], at + 1)
            self.check_refused(rows[:at + 1] + rows[at:], at + 2)
            self.check_refused(rows[:at] + [rows[at + 1], rows[at]] + rows[at + 2:], at + 1)
        self.check_refused(rows + rows[-1:], 5)
        self.assertEqual(len(take_up(town(), town_engines(), rows[:3])), 3)

    def test_what_writing_refuses(self):
        first = Row(1, 10, 10, CALL)
        for row in (
            Row(2, 9, 9, NOTHING), Row(2, 10, 11, NOTHING), Row(2, 11, 11, ("send", "x", 1)),
            Row(2, 11, 11, ("stop", 2)), Row(2, 11, 9, ("stop", 1)), Row(2, 11, 11, NOTHING, 2),
            Row(2, 11, 11, ("stop", 1), 1),
        ):
            with self.subTest(row=str(row)):
                self.check_refused([first, row], 2)
                self.check_refused([first, row, Row(3, 0, 0, NOTHING)], 2)

    def test_a_row_that_was_put_right_twice(self):
        self.check_refused([Row(1, 1, 1, NOTHING), Row(2, 1, 1, NOTHING, 1), Row(3, 1, 1, NOTHING, 1)], 3)

    def test_two_hundred_rows_and_one_more(self):
        rows = [Row(number, 1, 1, NOTHING) for number in range(1, 202)]
        self.assertEqual(len(take_up(town(), town_engines(), rows[:200])), 200)
        self.check_refused(rows, 201)

    def test_no_engines_goes_ahead_of_no_book(self):
        for thing in (None, [None], [], [Row(1, 1, 1, CALL)]):
            for engines in (None, [], list(town_engines()), small_engines(), ((),)):
                with self.assertRaises(NoEngines):
                    take_up(town(), engines, thing)


class EqualTest(unittest.TestCase):

    def test_rooms_equal_and_unlike(self):
        rows = [(10, CALL), (11, ("send", "wet", 1))]
        room = written_room(rows)
        self.assertIs(room == written_room(rows), True)
        self.assertIs(room != written_room(rows), False)
        for other in (rows[:1], [], rows + [(11, NOTHING)], [(10, CALL), (12, ("send", "wet", 1))]):
            self.assertIs(room == written_room(other), False)
        self.assertFalse(room == written_room([(10, CALL), (11, ("send", "tall", 1))]))
        self.assertFalse(written_room([(1, CALL), (1, NOTHING)]) == written_room([(1, NOTHING), (1, CALL)]))

    def test_rows_written_otherwise(self):
        one, other = Room(town(), town_engines()), Room(town(), town_engines())
        one.write(5, 5, CALL)
        other.write(6, 5, CALL)
        self.assertFalse(one == other)

    def test_grounds_in_another_order_are_equal(self):
        parts = town()
        turned = Ground(parts.places[::-1], parts.roads, parts.stations[::-1])
        self.assertTrue(Room(turned, town_engines()) == Room(town(), town_engines()))
        other = Ground(parts.places, parts.roads[:-1], parts.stations)
        self.assertFalse(Room(other, town_engines()) == Room(town(), town_engines()))

    def test_other_engines(self):
        engines = town_engines()
        for other in (engines[1:], engines[::-1], (("redone", "pump", "mill", 5),) + engines[1:], ()):
            self.assertFalse(Room(town(), other) == Room(town(), engines))

    def test_things_of_other_kinds(self):
        room = Room(town(), town_engines())
        for thing in ANY_THINGS + (town(), town_engines(), repr(room), []):
            self.assertIs(room == thing, False)
            self.assertIs(thing == room, False)
            self.assertIs(room != thing, True)

    def test_len_and_repr(self):
        room = Room(town(), town_engines())
        self.assertEqual((len(room), repr(room), bool(room)), (0, "Room(5, 0)", False))
        room.write(1, 1, CALL)
        room.write(1, 1, NOTHING, 1)
        self.assertEqual((len(room), repr(room), bool(room)), (2, "Room(5, 2)", True))
        self.assertEqual(repr(Room(town(), ())), "Room(0, 0)")

    def test_refused_rows_do_not_make_rooms_unlike(self):
        one, other = written_room([(5, CALL)]), written_room([(5, CALL)])
        with self.assertRaises(NotDone):
            one.write(6, 6, ("stop", 2))
        with self.assertRaises(NoRow):
            one.write(6, 6, NOTHING, 2)
        self.assertTrue(one == other)


if __name__ == "__main__":
    unittest.main()
