"""Points 13 and 14: each deed in each state, and what is told of engines, calls and roads behind it."""

import unittest

from tests.samples import ANY_THINGS, NOT_NAMES, small_engines, small_ground, town, town_engines, written_room
from whistleboard.errors import NoCall, NoEngine, NoEngines, NotDone
from whistleboard.ground import Ground
from whistleboard.room import Room

CALL = ("call", "mart", "house")
# Rows ahead, by which redone comes into a state, and what is told of it then.
# Row 1 is an open call at mart, row 2 one at quay.
AHEAD = (CALL, ("call", "quay", "car"))
STATES = {
    "home": ((), ("home", "mill", "mill", 0)),
    "elsewhere": ((("stand", "redone", "hill"),), ("home", "hill", "mill", 0)),
    "lent": ((("lend", "redone", "hill"),), ("home", "hill", "hill", 0)),
    "sent": ((("send", "redone", 1),), ("sent", "mill", "mill", 1)),
    "there": ((("send", "redone", 1), ("there", "redone")), ("there", "mart", "mill", 1)),
    "turned": ((("send", "redone", 1), ("back", "redone")), ("back", "mill", "mill", 0)),
    "back": ((("send", "redone", 1), ("there", "redone"), ("back", "redone")), ("back", "mart", "mill", 0)),
    "off": ((("off", "redone"),), ("off", "mill", "mill", 0)),
    "away": ((("stand", "redone", "hill"), ("off", "redone")), ("off", "hill", "mill", 0)),
    "lentoff": ((("lend", "redone", "mart"), ("off", "redone")), ("off", "mart", "mart", 0)),
    "lentout": ((("lend", "redone", "hill"), ("send", "redone", 2)), ("sent", "hill", "hill", 2)),
    "sentaway": ((("stand", "redone", "hill"), ("send", "redone", 2)), ("sent", "hill", "mill", 2)),
}
# For each deed what is told behind it in each state, or why it can't be done.
BEHIND = {
    ("send", "redone", 2): {
        "home": ("sent", "mill", "mill", 2),
        "elsewhere": ("sent", "hill", "mill", 2),
        "lent": ("sent", "hill", "hill", 2),
        "turned": ("sent", "mill", "mill", 2),
        "back": ("sent", "mart", "mill", 2),
    },
    ("there", "redone"): {
        "sent": ("there", "mart", "mill", 1),
        "lentout": ("there", "quay", "hill", 2),
        "sentaway": ("there", "quay", "mill", 2),
    },
    ("back", "redone"): {
        "sent": ("back", "mill", "mill", 0),
        "there": ("back", "mart", "mill", 0),
        "lentout": ("back", "hill", "hill", 0),
        "sentaway": ("back", "hill", "mill", 0),
    },
    ("home", "redone"): {
        "turned": ("home", "mill", "mill", 0),
        "back": ("home", "mill", "mill", 0),
    },
    ("off", "redone"): {
        "home": ("off", "mill", "mill", 0),
        "elsewhere": ("off", "hill", "mill", 0),
        "lent": ("off", "hill", "hill", 0),
    },
    ("on", "redone"): {
        "off": ("home", "mill", "mill", 0),
        "away": ("home", "hill", "mill", 0),
        "lentoff": ("home", "mart", "mart", 0),
    },
    ("stand", "redone", "mart"): {
        "home": ("home", "mart", "mill", 0),
        "elsewhere": ("home", "mart", "mill", 0),
        "lent": ("home", "mart", "hill", 0),
    },
    ("stand", "redone", "mill"): {
        "home": "station",
        "elsewhere": ("home", "mill", "mill", 0),
        "lent": ("home", "mill", "hill", 0),
    },
    ("stand", "redone", "hill"): {
        "home": ("home", "hill", "mill", 0),
        "elsewhere": "station",
        "lent": "station",
    },
    ("lend", "redone", "mart"): {
        "home": ("home", "mart", "mart", 0),
        "lent": ("home", "mart", "mart", 0),
    },
    ("lend", "redone", "mill"): {
        "home": "station",
        "lent": ("home", "mill", "mill", 0),
    },
    ("lend", "redone", "hill"): {
        "home": ("home", "hill", "hill", 0),
        "lent": "station",
    },
    ("send", "redone", 3): {name: "call" for name in STATES},
    ("send", "redone", 200): {name: "call" for name in STATES},
}


def room_in(name):
    """A room in which redone is in this state, each row in a minute of its own from 10 on."""
    rows = AHEAD + STATES[name][0]
    return written_room([(10 + at, deed) for at, deed in enumerate(rows)])


class RoomCase(unittest.TestCase):

    def refused(self, room, written, at, deed, right=0):
        """Why the deed can't be done; nothing is changed."""
        before = (room.rows(), room.void(), room.calls(), room.shut())
        engines = [room.engine(engine[0]) for engine in room.engines]
        with self.assertRaises(NotDone) as caught:
            room.write(written, at, deed, right)
        self.assertEqual((room.rows(), room.void(), room.calls(), room.shut()), before)
        self.assertEqual([room.engine(engine[0]) for engine in room.engines], engines)
        return caught.exception.why


class AtFirstTest(RoomCase):

    def test_each_engine_is_at_home_at_its_station(self):
        room = Room(town(), town_engines())
        for name, sort, station, seats in town_engines():
            for at in (None, 0, 500, 9999):
                self.assertEqual(room.engine(name, at), ("home", station, station, 0))
        self.assertEqual((room.calls(), room.shut(), room.rows(), room.void()), ([], [], [], []))
        self.assertEqual((room.calls(9999), room.shut(0)), ([], []))

    def test_engines_that_are_none(self):
        wrong = (("redone", "pump", "mill", 10),)
        for thing in [thing for thing in ANY_THINGS if thing != ()] + [wrong, list(town_engines()), small_engines()]:
            with self.subTest(thing=str(thing)[:40]), self.assertRaises(NoEngines):
                Room(town(), thing)
        with self.assertRaises(NoEngines):
            Room(engines=None, ground=town())

    def test_a_room_without_engines(self):
        room = Room(town(), ())
        room.write(5, 5, CALL)
        self.assertEqual(room.call(1), ("mart", "house", 5, 0, True, []))
        with self.assertRaises(NoEngine):
            room.engine("redone")


class EngineTest(RoomCase):

    def test_what_is_told_in_each_state(self):
        for name, (rows, told) in STATES.items():
            with self.subTest(state=name):
                self.assertEqual(room_in(name).engine("redone"), told)
                self.assertIs(type(room_in(name).engine("redone")), tuple)

    def test_each_deed_in_each_state(self):
        for deed, behind in BEHIND.items():
            for name, (rows, told) in STATES.items():
                with self.subTest(deed=deed, state=name):
                    room = room_in(name)
                    due = behind.get(name, "engine")
                    if isinstance(due, str):
                        self.assertEqual(self.refused(room, 50, 50, deed), due)
                        self.assertEqual(room.engine("redone"), told)
                    else:
                        room.write(50, 50, deed)
                        self.assertEqual(room.engine("redone"), due)
                        self.assertEqual(room.engine("redone", 50), due)
                        self.assertEqual(room.engine("redone", 49), told)

    def test_the_others_stay_as_they_were(self):
        for name in STATES:
            room = room_in(name)
            for other, sort, station, seats in town_engines()[1:]:
                self.assertEqual(room.engine(other), ("home", station, station, 0))

    def test_at_earlier_minutes(self):
        room = room_in("back")
        self.assertEqual([room.engine("redone", at) for at in (0, 9, 11, 12, 13, 14, 9999)], [
            ("home", "mill", "mill", 0), ("home", "mill", "mill", 0), ("home", "mill", "mill", 0),
            ("sent", "mill", "mill", 1), ("there", "mart", "mill", 1), ("back", "mart", "mill", 0),
            ("back", "mart", "mill", 0),
        ])

    def test_one_lent_and_then_sent_home(self):
        room = written_room([(1, CALL), (2, ("lend", "redone", "hill")), (3, ("send", "redone", 1))])
        room.write(4, 4, ("there", "redone"))
        self.assertEqual(room.engine("redone"), ("there", "mart", "hill", 1))
        room.write(5, 5, ("back", "redone"))
        room.write(6, 6, ("home", "redone"))
        self.assertEqual(room.engine("redone"), ("home", "hill", "hill", 0))
        room.write(7, 7, ("lend", "redone", "mill"))
        self.assertEqual(room.engine("redone"), ("home", "mill", "mill", 0))

    def test_one_that_stands_elsewhere_comes_home_to_its_own_station(self):
        room = written_room([(1, CALL), (2, ("stand", "redone", "hill")), (3, ("send", "redone", 1))])
        self.assertEqual(room.engine("redone"), ("sent", "hill", "mill", 1))
        room.write(4, 4, ("back", "redone"))
        self.assertEqual(room.engine("redone"), ("back", "hill", "mill", 0))
        room.write(5, 5, ("home", "redone"))
        self.assertEqual(room.engine("redone"), ("home", "mill", "mill", 0))

    def test_one_that_is_sent_again_while_it_turns_back(self):
        room = room_in("back")
        room.write(30, 30, ("send", "redone", 2))
        self.assertEqual(room.engine("redone"), ("sent", "mart", "mill", 2))
        room.write(31, 31, ("back", "redone"))
        self.assertEqual(room.engine("redone"), ("back", "mart", "mill", 0))
        room.write(32, 32, ("send", "redone", 2))
        room.write(33, 33, ("there", "redone"))
        self.assertEqual(room.engine("redone"), ("there", "quay", "mill", 2))

    def test_the_call_goes_ahead_of_the_engine(self):
        room = room_in("sent")
        self.assertEqual(self.refused(room, 50, 50, ("send", "redone", 9)), "call")
        self.assertEqual(self.refused(room, 50, 50, ("send", "redone", 2)), "engine")
        room.write(50, 50, ("stop", 2))
        self.assertEqual(self.refused(room, 50, 50, ("send", "redone", 2)), "call")

    def test_the_engine_goes_ahead_of_the_station(self):
        room = room_in("off")
        self.assertEqual(self.refused(room, 50, 50, ("stand", "redone", "mill")), "engine")
        self.assertEqual(self.refused(room, 50, 50, ("lend", "redone", "mill")), "engine")
        room = room_in("elsewhere")
        self.assertEqual(self.refused(room, 50, 50, ("lend", "redone", "hill")), "engine")
        self.assertEqual(self.refused(room, 50, 50, ("lend", "redone", "mill")), "engine")

    def test_any_thing_that_is_no_engine(self):
        room = room_in("sent")
        for thing in ANY_THINGS + NOT_NAMES + ("red", "mill", "Redone", ["redone"], ("redone",)):
            for at in (None, 0):
                with self.subTest(thing=str(thing)[:40]):
                    with self.assertRaises(NoEngine) as caught:
                        room.engine(thing, at)
                    self.assertIs(caught.exception.name, thing)


class CallTest(RoomCase):

    def test_a_call_that_comes(self):
        room = Room(town(), town_engines())
        room.write(20, 15, CALL)
        self.assertEqual(room.call(1), ("mart", "house", 15, 0, True, []))
        self.assertEqual(room.calls(), [1])
        self.assertEqual((room.calls(14), room.calls(15)), ([], [1]))
        self.assertIs(room.call(1)[4], True)
        self.assertIs(type(room.call(1)), tuple)

    def test_the_number_is_that_of_the_row(self):
        room = written_room([(1, ("nothing",)), (2, CALL), (3, ("nothing",)), (4, ("call", "far", "works"))])
        self.assertEqual(room.calls(), [2, 4])
        self.assertEqual(room.call(4), ("far", "works", 4, 0, True, []))
        for number in (1, 3, 5):
            with self.assertRaises(NoCall):
                room.call(number)

    def test_two_like_calls_are_two(self):
        room = written_room([(1, CALL), (1, CALL)])
        self.assertEqual(room.calls(), [1, 2])

    def test_again_changes_nothing(self):
        room = written_room([(1, CALL), (2, ("make", 1, 4)), (3, ("send", "tall", 1)), (9, ("again", 1))])
        self.assertEqual(room.call(1), ("mart", "house", 1, 4, True, ["tall"]))

    def test_make_asks_for_these(self):
        room = written_room([(1, CALL), (2, ("make", 1, 20)), (3, ("make", 1, 1))])
        self.assertEqual([room.call(1, at)[3] for at in (1, 2, 3)], [0, 20, 1])

    def test_engines_under_it_by_name(self):
        deeds = [(1, CALL), (2, ("send", "wet", 1)), (3, ("send", "redtwo", 1)), (4, ("send", "redone", 1))]
        room = written_room(deeds + [(5, ("there", "redtwo"))])
        self.assertEqual(room.call(1)[5], ["redone", "redtwo", "wet"])
        self.assertEqual(room.call(1, 3)[5], ["redtwo", "wet"])
        room.write(6, 6, ("back", "redtwo"))
        self.assertEqual(room.call(1)[5], ["redone", "wet"])

    def test_a_stopped_call_with_engines_sent_and_there(self):
        deeds = [(1, CALL), (2, ("call", "quay", "car")), (3, ("send", "wet", 1)), (3, ("send", "redtwo", 1))]
        room = written_room(deeds + [(4, ("there", "redtwo")), (5, ("send", "redone", 2)), (6, ("make", 1, 3))])
        room.write(7, 7, ("stop", 1))
        self.assertEqual(room.engine("wet"), ("back", "mill", "mill", 0))
        self.assertEqual(room.engine("redtwo"), ("back", "mart", "mill", 0))
        self.assertEqual(room.engine("redone"), ("sent", "mill", "mill", 2))
        self.assertEqual(room.call(1), ("mart", "house", 1, 3, False, []))
        self.assertIs(room.call(1)[4], False)
        self.assertEqual(room.calls(), [2])
        self.assertEqual(room.call(1, 6), ("mart", "house", 1, 3, True, ["redtwo", "wet"]))
        self.assertEqual(room.calls(6), [1, 2])

    def test_what_needs_an_open_call(self):
        room = written_room([(1, CALL), (2, ("nothing",)), (3, ("call", "quay", "car")), (4, ("stop", 1))])
        for number in (1, 2, 4, 5, 200):
            for deed in (("again", number), ("make", number, 3), ("stop", number), ("send", "wet", number)):
                with self.subTest(deed=deed):
                    self.assertEqual(self.refused(room, 9, 9, deed), "call")
        for deed in (("again", 3), ("make", 3, 3), ("send", "wet", 3), ("stop", 3)):
            room.write(9, 9, deed)

    def test_it_is_not_open_ahead_of_its_minute(self):
        room = written_room([(1, ("nothing",)), (10, CALL)])
        self.assertEqual(self.refused(room, 10, 9, ("again", 2)), "call")
        room.write(10, 10, ("again", 2))

    def test_any_thing_that_is_no_call(self):
        room = written_room([(1, CALL), (5, ("call", "quay", "car"))])
        for thing in [thing for thing in ANY_THINGS if thing not in (1, 2)] + [True, 3, 200, "1", [1], (1,)]:
            with self.subTest(thing=str(thing)[:40]):
                with self.assertRaises(NoCall) as caught:
                    room.call(thing)
                self.assertIs(caught.exception.number, thing)
        with self.assertRaises(NoCall):
            room.call(2, 4)
        self.assertEqual(room.call(number=2, at=5)[0], "quay")


class RoadTest(RoomCase):

    def test_shut_and_clear(self):
        room = written_room([(1, ("shut", 3)), (2, ("shut", 0)), (3, ("clear", 3)), (4, ("shut", 4))])
        self.assertEqual([room.shut(at) for at in (0, 1, 2, 3, 4, None)], [[], [3], [0, 3], [0], [0, 4], [0, 4]])
        self.assertEqual(self.refused(room, 5, 5, ("shut", 0)), "road")
        self.assertEqual(self.refused(room, 5, 5, ("clear", 3)), "road")
        room.write(5, 5, ("shut", 3))
        self.assertEqual(room.shut(at=5), [0, 3, 4])

    def test_a_shut_road_hinders_no_deed(self):
        room = written_room([(1, CALL)] + [(2, ("shut", number)) for number in range(5)])
        for deed in (("send", "redone", 1), ("there", "redone"), ("back", "redone"), ("home", "redone")):
            room.write(3, 3, deed)
        self.assertEqual(room.engine("redone"), ("home", "mill", "mill", 0))

    def test_nothing_changes_nothing(self):
        room = written_room([(1, ("nothing",)), (1, ("nothing",))])
        self.assertEqual((room.calls(), room.shut(), room.void(), len(room)), ([], [], [], 2))


class AskedTest(RoomCase):

    def test_told_lists_are_the_askers_own(self):
        room = written_room([(1, CALL), (2, ("send", "wet", 1)), (3, ("shut", 2))])
        room.call(1)[5].append("redone")
        room.calls().append(9)
        room.shut().clear()
        room.rows().pop()
        room.void().append((1, "call"))
        self.assertEqual(room.call(1)[5], ["wet"])
        self.assertEqual((room.calls(), room.shut(), room.void(), len(room.rows())), ([1], [2], [], 3))

    def test_told_lists_are_not_changed_later(self):
        room = written_room([(1, CALL), (2, ("send", "wet", 1)), (3, ("shut", 2))])
        told = (room.call(1), room.calls(), room.shut(), room.rows(), room.void())
        kept = (("mart", "house", 1, 0, True, ["wet"]), [1], [2], list(told[3]), [])
        room.write(4, 4, ("stop", 1))
        room.write(4, 4, ("clear", 2))
        room.write(4, 2, ("nothing",), 3)
        self.assertEqual(told, kept)

    def test_two_rooms_of_one_ground_are_each_its_own(self):
        ground, engines = town(), town_engines()
        one, other = Room(ground, engines), Room(ground, engines)
        one.write(1, 1, CALL)
        one.write(1, 1, ("send", "redone", 1))
        one.write(1, 1, ("shut", 1))
        self.assertEqual((len(other), other.calls(), other.shut()), (0, [], []))
        self.assertEqual(other.engine("redone"), ("home", "mill", "mill", 0))
        self.assertEqual((ground, engines), (town(), town_engines()))
        self.assertEqual(ground.minutes("quay", "hill"), 3)

    def test_a_ground_without_stations_or_roads(self):
        room = Room(Ground((("a", 1),), (), ()), ())
        room.write(0, 0, ("call", "a", "car"))
        self.assertEqual(room.call(1), ("a", "car", 0, 0, True, []))

    def test_by_names(self):
        room = Room(engines=small_engines(), ground=small_ground())
        row = room.write(deed=("call", "e", "car"), at=3, written=4)
        self.assertEqual((row.number, row.written, row.at, row.right), (1, 4, 3, 0))
        room.write(right=1, deed=("call", "a", "car"), written=4, at=4)
        self.assertEqual(room.calls(at=4), [1])
        self.assertEqual(room.shut(at=None), [])
        self.assertEqual(room.engine(at=4, name="tall"), ("home", "a", "a", 0))
        self.assertEqual(room.call(at=4, number=1)[0], "a")


if __name__ == "__main__":
    unittest.main()
