"""Point 19: a call told twice is one call."""

import unittest

from tests.samples import ANY_THINGS, chance_room, town, written_room
from whistleboard.errors import NoKind, NoPlace
from whistleboard.ground import Ground
from whistleboard.sending import heard

KINDS = ("car", "chimney", "grass", "house", "people", "works")
# In no slow hour.
AT = 600


def row_of_places(*minutes):
    """A ground of places a, b, c and so on in a row, so many minutes apart."""
    names = "abcdefgh"[:len(minutes) + 1]
    roads = tuple([(names[at], names[at + 1], taken, 0) for at, taken in enumerate(minutes)])
    return Ground(tuple([(name, 2) for name in names]), roads, ())


class HeardTest(unittest.TestCase):

    def test_without_any_call(self):
        room = written_room([])
        for kind in KINDS:
            self.assertEqual(heard(room, "mill", kind, AT), ("call", "mill", kind))
        self.assertIs(type(heard(room, "mill", "car", AT)), tuple)

    def test_an_open_call_of_this_place_and_kind(self):
        room = written_room([(AT, ("call", "mill", "house"))])
        self.assertEqual(heard(room, "mill", "house", AT), ("again", 1))
        self.assertEqual(heard(room, "far", "house", AT), ("call", "far", "house"))
        for kind in KINDS:
            if kind != "house":
                self.assertEqual(heard(room, "mill", kind, AT), ("call", "mill", kind))

    def test_a_place_without_roads_is_near_itself(self):
        room = written_room([(AT, ("call", "far", "car"))])
        self.assertEqual(heard(room, "far", "car", AT), ("again", 1))
        self.assertEqual(heard(room, "mill", "car", AT), ("call", "mill", "car"))

    def test_thirty_and_thirty_one_minutes_earlier(self):
        room = written_room([(AT, ("call", "mill", "house"))])
        for later in (0, 1, 29, 30):
            self.assertEqual(heard(room, "mill", "house", AT + later), ("again", 1))
        for later in (31, 32, 1000):
            self.assertEqual(heard(room, "mill", "house", AT + later), ("call", "mill", "house"))

    def test_the_minute_is_that_of_which_its_row_speaks(self):
        room = written_room([])
        room.write(AT + 40, AT, ("call", "mill", "house"))
        self.assertEqual(heard(room, "mill", "house", AT + 30), ("again", 1))
        self.assertEqual(heard(room, "mill", "house", AT + 31), ("call", "mill", "house"))
        self.assertEqual(heard(room, "mill", "house", AT - 1), ("call", "mill", "house"))

    def test_again_and_make_do_not_make_it_younger(self):
        room = written_room([(AT, ("call", "mill", "house")), (AT + 20, ("again", 1)), (AT + 20, ("make", 1, 4))])
        self.assertEqual(heard(room, "mill", "house", AT + 31), ("call", "mill", "house"))

    def test_two_and_three_minutes_away(self):
        room = written_room([(AT, ("call", "a", "house"))], row_of_places(1, 1, 1), ())
        told = [heard(room, place, "house", AT) for place in "abcd"]
        self.assertEqual(told, [("again", 1), ("again", 1), ("again", 1), ("call", "d", "house")])
        room = written_room([(AT, ("call", "b", "house"))], row_of_places(2, 3), ())
        self.assertEqual(heard(room, "a", "house", AT), ("again", 1))
        self.assertEqual(heard(room, "c", "house", AT), ("call", "c", "house"))

    def test_in_slow_hours(self):
        # Between mill and quay are two minutes, and one more in the slow hours.
        for hour in range(24):
            at = 1440 + hour * 60
            room = written_room([(at, ("call", "quay", "car"))])
            due = ("call", "mill", "car") if hour in (7, 8, 16, 17) else ("again", 1)
            with self.subTest(hour=hour):
                self.assertEqual(heard(room, "mill", "car", at), due)
                self.assertEqual(heard(room, "quay", "car", at), ("again", 1))

    def test_the_hour_is_that_of_the_asked_minute(self):
        room = written_room([(419, ("call", "quay", "car"))])
        self.assertEqual(heard(room, "mill", "car", 419), ("again", 1))
        self.assertEqual(heard(room, "mill", "car", 420), ("call", "mill", "car"))
        room = written_room([(539, ("call", "quay", "car"))])
        self.assertEqual(heard(room, "mill", "car", 539), ("call", "mill", "car"))
        self.assertEqual(heard(room, "mill", "car", 540), ("again", 1))

    def test_with_roads_shut(self):
        deeds = [(AT, ("call", "quay", "car")), (AT + 2, ("shut", 0)), (AT + 4, ("clear", 0))]
        room = written_room(deeds)
        told = [heard(room, "mill", "car", AT + later)[0] for later in range(6)]
        self.assertEqual(told, ["again", "again", "call", "call", "again", "again"])

    def test_several_at_once(self):
        deeds = [(AT, ("call", "d", "car")), (AT, ("call", "b", "house")), (AT, ("call", "b", "car"))]
        room = written_room(deeds + [(AT, ("call", "a", "car"))], row_of_places(1, 1, 1), ())
        self.assertEqual(heard(room, "a", "car", AT), ("again", 3))
        self.assertEqual(heard(room, "b", "car", AT), ("again", 1))
        room.write(AT, AT, ("stop", 1))
        self.assertEqual(heard(room, "b", "car", AT), ("again", 3))
        room.write(AT, AT, ("stop", 3))
        self.assertEqual(heard(room, "b", "car", AT), ("again", 4))
        room.write(AT, AT, ("stop", 4))
        self.assertEqual(heard(room, "b", "car", AT), ("call", "b", "car"))

    def test_the_least_number_not_the_nearest_nor_the_youngest(self):
        deeds = [(AT, ("call", "c", "car")), (AT + 9, ("call", "a", "car"))]
        room = written_room(deeds, row_of_places(1, 1), ())
        self.assertEqual(heard(room, "a", "car", AT + 9), ("again", 1))
        self.assertEqual(heard(room, "a", "car", AT + 31), ("again", 2))

    def test_a_stopped_call_is_none(self):
        room = written_room([(AT, ("call", "mill", "house")), (AT + 5, ("stop", 1))])
        self.assertEqual(heard(room, "mill", "house", AT + 4), ("again", 1))
        self.assertEqual(heard(room, "mill", "house", AT + 5), ("call", "mill", "house"))

    def test_a_call_put_right_has_its_chains_number(self):
        room = written_room([(AT, ("nothing",)), (AT, ("call", "hill", "car"))])
        room.write(AT, AT, ("call", "mill", "house"), 1)
        self.assertEqual(heard(room, "mill", "house", AT), ("again", 1))

    def test_it_can_be_written(self):
        for seed in range(10):
            room = chance_room(seed)
            last = room.rows()[-1].written
            for place, risk in room.ground.places:
                deed = heard(room, place, "house", last)
                told = room.twin().write(last, last, deed)
                self.assertEqual(told.deed, deed)

    def test_against_all_open_calls(self):
        for seed in range(20):
            room = chance_room(seed)
            last = room.rows()[-1].written
            for at in (0, 100, 300, 430, 500, last):
                for place, risk in room.ground.places:
                    for kind in KINDS:
                        self.check_heard(room, place, kind, at)

    def check_heard(self, room, place, kind, at):
        fitting = []
        for number in room.calls(at):
            call = room.call(number, at)
            away = room.ground.minutes(call[0], place, at % 1440 // 60, room.shut(at))
            if call[1] == kind and at - call[2] <= 30 and away is not None and away <= 2:
                fitting.append(number)
        due = ("again", min(fitting)) if fitting else ("call", place, kind)
        self.assertEqual(heard(room, place, kind, at), due)


class RefusedTest(unittest.TestCase):

    def test_no_place(self):
        room = written_room([(AT, ("call", "mill", "house"))])
        for thing in ANY_THINGS + ("nowhere", "Mill", ["mill"], ("mill",)):
            with self.subTest(thing=str(thing)[:40]):
                with self.assertRaises(NoPlace) as caught:
                    heard(room, thing, "house", AT)
                self.assertIs(caught.exception.place, thing)

    def test_no_kind(self):
        room = written_room([(AT, ("call", "mill", "house"))])
        for thing in ANY_THINGS + ("boat", "House", ["house"], ("house",)):
            with self.subTest(thing=str(thing)[:40]):
                with self.assertRaises(NoKind) as caught:
                    heard(room, "mill", thing, AT)
                self.assertIs(caught.exception.kind, thing)

    def test_the_place_goes_ahead_of_the_kind(self):
        with self.assertRaises(NoPlace):
            heard(written_room([]), "nowhere", "boat", AT)

    def test_asking_changes_nothing(self):
        room = written_room([(AT, ("call", "mill", "house"))])
        heard(at=AT, kind="house", place="mill", room=room)
        self.assertEqual((len(room), room.ground), (1, town()))


if __name__ == "__main__":
    unittest.main()
