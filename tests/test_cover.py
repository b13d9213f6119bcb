"""Points 21 and 22: cover of each place, and moves that fill empty stations."""

import itertools
import random
import unittest

from tests.samples import chance_parts, chance_room, place_name, town, written_room
from whistleboard.cover import cover, moves, uncovered
from whistleboard.errors import NotDone
from whistleboard.ground import Ground
from whistleboard.pairing import look_pairs
from whistleboard.room import Room

AT = 600
# From mill (redone, redtwo) and hill (redsix), in no slow hour.
FIRST = [("mill", 0), ("quay", 2), ("hill", 0), ("mart", 1), ("out", 10), ("far", None)]


def ring(many, stations, minutes=5):
    """A ground of so many places in a ring, the first ones of them stations."""
    names = [place_name(at) for at in range(many)]
    roads = tuple([(names[at], names[(at + 1) % many], minutes, 0) for at in range(many)])
    return Ground(tuple([(name, 1) for name in names]), roads, tuple(names[:stations]))


class CoverTest(unittest.TestCase):

    def test_from_where_pumps_at_home_stand(self):
        room = written_room([])
        self.assertEqual(cover(room, AT), FIRST)
        self.assertIs(type(cover(room, AT)[0]), tuple)

    def test_in_the_grounds_order(self):
        ground = town()
        turned = Ground(ground.places[::-1], ground.roads, ground.stations)
        self.assertEqual(cover(written_room([], turned), AT), FIRST[::-1])

    def test_only_pumps_count(self):
        engines = (("tall", "ladder", "hill", 3), ("wet", "tanker", "mill", 2))
        room = written_room([], None, engines)
        self.assertEqual(cover(room, AT), [(place, None) for place, minutes in FIRST])

    def test_without_any_engine(self):
        room = written_room([], None, ())
        self.assertEqual(cover(room, AT), [(place, None) for place, minutes in FIRST])
        self.assertEqual(uncovered(room, AT, 999), [place for place, minutes in FIRST])

    def test_a_pump_that_is_out_of_use(self):
        room = written_room([(AT, ("off", "redsix")), (AT + 1, ("on", "redsix"))])
        off = [("mill", 0), ("quay", 2), ("hill", 5), ("mart", 6), ("out", 15), ("far", None)]
        self.assertEqual([cover(room, AT - 1), cover(room, AT), cover(room, AT + 1)], [FIRST, off, FIRST])

    def test_a_pump_that_is_sent_there_or_turns_back(self):
        deeds = [(AT, ("call", "quay", "car")), (AT + 1, ("send", "redsix", 1)), (AT + 2, ("there", "redsix"))]
        room = written_room(deeds + [(AT + 3, ("back", "redsix")), (AT + 4, ("home", "redsix"))])
        told = [cover(room, AT + later)[2] for later in range(5)]
        self.assertEqual(told, [("hill", 0), ("hill", 5), ("hill", 5), ("hill", 5), ("hill", 0)])

    def test_one_of_two_pumps_is_enough(self):
        room = written_room([(AT, ("off", "redone"))])
        self.assertEqual(cover(room, AT), FIRST)

    def test_a_pump_that_is_lent_or_stands_elsewhere(self):
        away = [("mill", 0), ("quay", 2), ("hill", 1), ("mart", 0), ("out", 9), ("far", None)]
        for word in ("lend", "stand"):
            room = written_room([(AT, (word, "redsix", "mart"))])
            self.assertEqual(cover(room, AT), away)
            self.assertEqual(cover(room, AT - 1), FIRST)

    def test_with_roads_shut(self):
        room = written_room([(AT, ("shut", 2)), (AT + 1, ("shut", 4)), (AT + 2, ("clear", 2))])
        told = [("mill", 0), ("quay", 2), ("hill", 0), ("mart", 7), ("out", 16), ("far", None)]
        self.assertEqual(cover(room, AT), told)
        self.assertEqual(cover(room, AT + 1), told[:4] + [("out", None), ("far", None)])
        self.assertEqual(cover(room, AT + 2), FIRST[:4] + [("out", None), ("far", None)])

    def test_in_slow_hours(self):
        room = written_room([])
        slow = [("mill", 0), ("quay", 3), ("hill", 0), ("mart", 1), ("out", 15), ("far", None)]
        for hour in range(24):
            due = slow if hour in (7, 8, 16, 17) else FIRST
            self.assertEqual(cover(room, 2880 + hour * 60), due)
            self.assertEqual(cover(room, 2880 + hour * 60 + 59), due)

    def test_against_each_pump(self):
        for seed in range(20):
            room = chance_room(seed)
            for at in (0, 100, 300, 450, 700):
                due = []
                for place, risk in room.ground.places:
                    near = []
                    for name, sort, station, seats in room.engines:
                        word, stands, own, call = room.engine(name, at)
                        minutes = room.ground.minutes(stands, place, at % 1440 // 60, room.shut(at))
                        if sort == "pump" and word == "home" and minutes is not None:
                            near.append(minutes)
                    due.append((place, min(near) if near else None))
                self.assertEqual(cover(room, at), due)
                for limit in (0, 1, 5, 999):
                    bare = [place for place, minutes in due if minutes is None or minutes > limit]
                    self.assertEqual(uncovered(room, at, limit), bare)

    def test_a_full_ground(self):
        names = [place_name(at) for at in range(40)]
        ground = ring(40, 12)
        engines = tuple([(place_name(100 + at), "pump", names[at % 12], 1) for at in range(24)])
        told = cover(written_room([], ground, engines), AT)
        self.assertEqual(told[:13], [(name, 0) for name in names[:12]] + [(names[12], 5)])
        self.assertEqual(told[39], (names[39], 5))


class UncoveredTest(unittest.TestCase):

    def test_limits(self):
        room = written_room([])
        self.assertEqual(uncovered(room, AT, 0), ["quay", "mart", "out", "far"])
        self.assertEqual(uncovered(room, AT, 1), ["quay", "out", "far"])
        self.assertEqual(uncovered(room, AT, 2), ["out", "far"])
        self.assertEqual(uncovered(room, AT, 9), ["out", "far"])
        self.assertEqual(uncovered(room, AT, 10), ["far"])
        self.assertEqual(uncovered(room, AT, 999), ["far"])

    def test_by_names_and_told_lists_are_the_askers_own(self):
        room = written_room([])
        cover(at=AT, room=room).clear()
        uncovered(limit=0, at=AT, room=room).clear()
        told = moves(limit=1, at=AT, room=room)
        told[0].clear()
        told[1].append("mill")
        self.assertEqual(cover(room, AT), FIRST)
        self.assertEqual(len(uncovered(room, AT, 0)), 4)
        self.assertEqual(moves(room, AT, 1), ([], ["mart"]))
        self.assertEqual(len(room), 0)


class MovesTest(unittest.TestCase):

    def test_a_spare_one_fills_an_empty_station(self):
        # Mart is empty; redtwo is spare at mill, six minutes away by quay and hill.
        room = written_room([])
        told = moves(room, AT, 6)
        self.assertEqual(told, ([("redtwo", "mart")], []))
        self.assertEqual((type(told), type(told[0]), type(told[0][0]), type(told[1])), (tuple, list, tuple, list))

    def test_the_limit_is_just_reached_and_missed(self):
        room = written_room([])
        self.assertEqual(moves(room, AT, 5), ([], ["mart"]))
        self.assertEqual(moves(room, AT, 0), ([], ["mart"]))
        self.assertEqual(moves(room, AT, 999), ([("redtwo", "mart")], []))

    def test_in_slow_hours_and_with_roads_shut(self):
        room = written_room([(AT, ("shut", 2)), (AT + 1, ("shut", 3))])
        self.assertEqual(moves(room, 420, 6), ([], ["mart"]))
        self.assertEqual(moves(room, 420, 7), ([("redtwo", "mart")], []))
        self.assertEqual(moves(room, AT, 6), ([], ["mart"]))
        self.assertEqual(moves(room, AT, 7), ([("redtwo", "mart")], []))
        self.assertEqual(moves(room, AT + 1, 999), ([], ["mart"]))

    def test_no_station_is_empty(self):
        room = written_room([(AT, ("stand", "redtwo", "mart"))])
        self.assertEqual(moves(room, AT, 999), ([], []))

    def test_the_first_one_by_name_is_not_spare(self):
        engines = (("zz", "pump", "mill", 1), ("aa", "pump", "mill", 1), ("mm", "pump", "mill", 1))
        room = written_room([], None, engines)
        told, band = moves(room, AT, 999)
        self.assertEqual(sorted([engine for engine, station in told]), ["mm", "zz"])
        self.assertEqual([station for engine, station in told], ["hill", "mart"])
        self.assertEqual(band, [])

    def test_only_pumps_at_home_count(self):
        engines = (("aa", "ladder", "mill", 1), ("bb", "pump", "mill", 1), ("cc", "pump", "mill", 1))
        engines += (("tall", "ladder", "hill", 1), ("dd", "pump", "hill", 1))
        deeds = [(AT, ("call", "quay", "car")), (AT + 1, ("off", "dd")), (AT + 2, ("on", "dd"))]
        room = written_room(deeds + [(AT + 3, ("send", "bb", 1)), (AT + 4, ("back", "bb"))], None, engines)
        self.assertEqual(moves(room, AT, 999), ([("cc", "mart")], []))
        told, band = moves(room, AT + 1, 999)
        self.assertEqual((len(told), told[0][0], band), (1, "cc", ["hill", "mart"]))
        self.assertEqual(moves(room, AT + 2, 999), ([("cc", "mart")], []))
        # While bb is out, cc is the first one at mill.
        self.assertEqual(moves(room, AT + 3, 999), ([], ["mart"]))
        self.assertEqual(moves(room, AT + 4, 999), ([], ["mart"]))

    def test_those_that_stand_elsewhere_are_spare_there(self):
        room = written_room([(AT, ("stand", "redone", "hill"))])
        # At hill stand redone and redsix, at mill redtwo alone: redsix is spare, a minute from mart.
        self.assertEqual(moves(room, AT, 1), ([("redsix", "mart")], []))
        self.assertEqual(moves(room, AT, 0), ([], ["mart"]))

    def test_too_few_spare_ones(self):
        ground = ring(6, 4)
        engines = (("aa", "pump", "ab", 1), ("bb", "pump", "ab", 1))
        room = written_room([], ground, engines)
        told, band = moves(room, AT, 999)
        self.assertEqual((len(told), told[0][0], band), (1, "bb", ["aa", "ac", "ad"]))
        told, band = moves(room, AT, 5)
        self.assertEqual((len(told), told[0][0]), (1, "bb"))
        self.check_moves(room, AT, 5)

    def test_one_that_has_to_leave_the_nearer_station_to_another(self):
        # bb reaches ab and ad, dd only ab: both are filled.
        ground = Ground(tuple([(name, 1) for name in ("ab", "ac", "ad", "ae")]),
                        (("ac", "ab", 1, 0), ("ac", "ad", 5, 0), ("ae", "ab", 5, 0)), ("ab", "ac", "ad", "ae"))
        engines = (("aa", "pump", "ac", 1), ("bb", "pump", "ac", 1), ("cc", "pump", "ae", 1), ("dd", "pump", "ae", 1))
        room = written_room([], ground, engines)
        self.assertEqual(moves(room, AT, 5), ([("dd", "ab"), ("bb", "ad")], []))

    def test_without_engines_or_stations(self):
        self.assertEqual(moves(written_room([], None, ()), AT, 9), ([], ["mill", "hill", "mart"]))
        ground = Ground((("a", 1),), (), ())
        self.assertEqual(moves(Room(ground, ()), AT, 9), ([], []))

    def test_the_band_is_in_the_stations_order(self):
        ground = town()
        turned = Ground(ground.places, ground.roads, ("mart", "mill", "hill"))
        self.assertEqual(moves(written_room([], turned, ()), AT, 9), ([], ["mart", "mill", "hill"]))

    def test_against_all_choices(self):
        asked = 0
        for seed in range(120):
            room = self.chance_brigade(seed)
            for limit in (0, 2, 4, 9):
                asked += self.check_moves(room, AT, limit)
        self.assertGreater(asked, 100)

    def chance_brigade(self, seed):
        """A room on a small ground with pumps that stand about."""
        chance = random.Random(seed)
        places, roads, stations = chance_parts(seed, 7)
        names = [name for name, risk in places]
        stations = tuple(chance.sample(names, min(5, len(names))))
        sorts = ("pump", "pump", "pump", "ladder")
        engines = tuple([(place_name(at), chance.choice(sorts), chance.choice(stations), 1) for at in range(7)])
        room = Room(Ground(places, roads, stations), engines)
        for again in range(5):
            name = chance.choice(engines)[0]
            try:
                room.write(AT, AT, chance.choice((("stand", name, chance.choice(stations)), ("off", name))))
            except NotDone:
                pass
        return room

    def check_moves(self, room, at, limit):
        """What is told is as told, as many are filled as can be, and the band shows it; how many are filled."""
        stands = {}
        for name, sort, station, seats in sorted(room.engines):
            word, place, own, call = room.engine(name, at)
            if sort == "pump" and word == "home":
                stands.setdefault(place, []).append(name)
        empty = [station for station in room.ground.stations if station not in stands]
        spare = sorted([(name, place) for place, names in stands.items() for name in names[1:]])
        wishes = []
        for station in empty:
            away = [room.ground.minutes(place, station, at % 1440 // 60, room.shut(at)) for name, place in spare]
            wishes.append([holder for holder, far in enumerate(away) if far is not None and far <= limit])
        told, band = moves(room, at, limit)
        engines = [engine for engine, station in told]
        filled = [station for engine, station in told]
        self.assertEqual(len(engines), len(set(engines)))
        self.assertEqual(filled, [station for station in empty if station in filled])
        pairs = [None] * len(empty)
        for engine, station in told:
            pairs[empty.index(station)] = [name for name, place in spare].index(engine)
        look_pairs(wishes, (pairs, [empty.index(station) for station in band]))
        choices = itertools.product(*[[None] + wish for wish in wishes])
        fair = [[one for one in choice if one is not None] for choice in choices]
        self.assertEqual(len(told), max([len(choice) for choice in fair if len(choice) == len(set(choice))]))
        self.assertEqual(band == [], len(told) == len(empty))
        return len(told)


if __name__ == "__main__":
    unittest.main()
