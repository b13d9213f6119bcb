"""Point 6: minutes, roads, stations, grounds and risks."""

import copy
import unittest

from tests.samples import ANY_THINGS, chance_parts, full_parts, place_name, small_ground
from whistleboard.errors import NoPlace
from whistleboard.ground import Ground

SLOW = (7, 8, 16, 17)


def walks_from(ground, start, hour, shut):
    """Every walk from the start that comes to no place twice, with its minutes: found without any wit."""
    walks = [(0, [start])]
    for minutes, walk in walks:
        for number, (one, other, taken, slow) in enumerate(ground.roads):
            for here, there in ((one, other), (other, one)):
                if here == walk[-1] and there not in walk and number not in shut:
                    more = taken + (slow if hour in SLOW else 0)
                    walks.append((minutes + more, walk + [there]))
    return walks


def best_walk(ground, start, goal, hour, shut):
    """The least minutes and the least list of these, (None, []) without any."""
    found = [row for row in walks_from(ground, start, hour, shut) if row[1][-1] == goal]
    return min(found) if found else (None, [])


def best_station(ground, place, hour, shut):
    """The nearest and least station of a place, None without any."""
    found = [(best_walk(ground, place, station, hour, shut)[0], station) for station in ground.stations]
    near = [row for row in found if row[0] is not None]
    return min(near)[1] if near else None


class SmallGroundTest(unittest.TestCase):

    def test_minutes(self):
        ground = small_ground()
        self.assertEqual(ground.minutes("a", "d"), 10)
        self.assertEqual(ground.minutes("d", "a"), 10)
        self.assertEqual(ground.minutes("a", "b"), 4)
        self.assertEqual(ground.minutes("b", "c"), 9)

    def test_to_itself(self):
        ground = small_ground()
        self.assertEqual(ground.minutes("a", "a"), 0)
        self.assertEqual(ground.minutes("e", "e", 7, [0, 1, 2, 3]), 0)
        self.assertEqual(ground.road("a", "a"), ["a"])
        self.assertEqual(ground.road("e", "e", 7, [0, 1, 2, 3]), ["e"])

    def test_what_can_not_be_come_to(self):
        ground = small_ground()
        self.assertIsNone(ground.minutes("a", "e"))
        self.assertIsNone(ground.minutes("e", "a"))
        self.assertEqual(ground.road("a", "e"), [])
        self.assertEqual(ground.road("e", "a"), [])
        self.assertIsNone(ground.station_of("e"))

    def test_of_equally_short_roads_the_least_list(self):
        ground = small_ground()
        self.assertEqual(ground.road("a", "d"), ["a", "b", "d"])
        self.assertEqual(ground.road("d", "a"), ["d", "b", "a"])

    def test_the_least_list_may_begin_with_the_longer_road(self):
        places = (("s", 1), ("b", 1), ("c", 1), ("g", 1))
        ground = Ground(places, (("s", "c", 1, 0), ("c", "g", 3, 0), ("s", "b", 3, 0), ("b", "g", 1, 0)), ())
        self.assertEqual(ground.road("s", "g"), ["s", "b", "g"])
        self.assertEqual(ground.road("g", "s"), ["g", "b", "s"])

    def test_the_least_list_may_have_more_places(self):
        places = (("s", 1), ("b", 1), ("c", 1), ("g", 1))
        ground = Ground(places, (("s", "g", 3, 0), ("s", "c", 1, 0), ("c", "b", 1, 0), ("b", "g", 1, 0)), ())
        self.assertEqual(ground.road("s", "g"), ["s", "c", "b", "g"])

    def test_fewer_minutes_go_ahead_of_fewer_places(self):
        places = (("a", 1), ("b", 1), ("z", 1))
        ground = Ground(places, (("a", "b", 60, 0), ("a", "z", 29, 0), ("z", "b", 30, 0)), ())
        self.assertEqual(ground.minutes("a", "b"), 59)
        self.assertEqual(ground.road("a", "b"), ["a", "z", "b"])

    def test_slow_hours_and_their_neighbours(self):
        ground = small_ground()
        for hour in range(24):
            with self.subTest(hour=hour):
                slow = hour in SLOW
                self.assertEqual(ground.minutes("b", "d", hour), 9 if slow else 6)
                self.assertEqual(ground.minutes("a", "c", hour), 7 if slow else 5)
                self.assertEqual(ground.minutes("a", "b", hour), 4)
                self.assertEqual(ground.minutes("a", "d", hour), 12 if slow else 10)
                self.assertEqual(ground.road("a", "d", hour), ["a", "c", "d"] if slow else ["a", "b", "d"])
                self.assertEqual(ground.station_of("b", hour), "a")

    def test_stations_change_with_the_hour(self):
        ground = Ground((("a", 1), ("b", 1), ("c", 1)), (("a", "b", 3, 5), ("b", "c", 4, 0)), ("a", "c"))
        for hour in range(24):
            with self.subTest(hour=hour):
                slow = hour in SLOW
                self.assertEqual(ground.station_of("b", hour), "c" if slow else "a")
                served = [("a", ["a"]), ("c", ["b", "c"])] if slow else [("a", ["a", "b"]), ("c", ["c"])]
                self.assertEqual(ground.grounds(hour), served)

    def test_roads_shut(self):
        ground = small_ground()
        self.assertEqual(ground.minutes("a", "d", 0, [0]), 10)
        self.assertEqual(ground.road("a", "d", 0, [0]), ["a", "c", "d"])
        self.assertEqual(ground.road("a", "d", 0, [1]), ["a", "b", "d"])
        self.assertEqual(ground.minutes("a", "b", 0, [0]), 16)
        self.assertEqual(ground.minutes("a", "b", 8, [0]), 7 + 5 + 9)
        self.assertIsNone(ground.minutes("a", "d", 0, [0, 1]))
        self.assertEqual(ground.road("a", "d", 0, [1, 0]), [])
        self.assertEqual(ground.station_of("b", 0, [0]), "d")
        self.assertIsNone(ground.station_of("b", 0, [0, 2]))
        self.assertEqual(ground.grounds(0, [0, 2]), [("d", ["d"]), ("a", ["a", "c"])])

    def test_none_and_an_empty_list_shut_nothing(self):
        ground = small_ground()
        self.assertEqual(ground.minutes("a", "b", 0, None), 4)
        self.assertEqual(ground.minutes("a", "b", 0, []), 4)
        self.assertEqual(ground.road("a", "b", 0, None), ground.road("a", "b", 0, []))
        self.assertEqual(ground.station_of("b", 0, None), ground.station_of("b", 0, []))
        self.assertEqual(ground.grounds(0, None), ground.grounds(0, []))

    def test_a_road_shut_twice_is_shut(self):
        self.assertEqual(small_ground().minutes("a", "b", 0, [0, 0]), 16)

    def test_the_stations_in_their_order_and_the_places_in_theirs(self):
        self.assertEqual(small_ground().grounds(), [("d", ["d"]), ("a", ["b", "a", "c"])])

    def test_of_equally_near_stations_the_least(self):
        roads = (("m", "z", 2, 0), ("m", "b", 2, 0), ("m", "k", 2, 0))
        ground = Ground((("z", 1), ("m", 1), ("b", 1), ("k", 1)), roads, ("z", "k", "b"))
        self.assertEqual(ground.station_of("m"), "b")
        self.assertEqual(ground.station_of("m", 0, [1]), "k")
        self.assertEqual(ground.grounds(), [("z", ["z"]), ("k", ["k"]), ("b", ["m", "b"])])

    def test_a_nearer_station_goes_ahead_of_a_lesser_one(self):
        roads = (("m", "z", 2, 0), ("m", "b", 3, 0))
        ground = Ground((("z", 1), ("m", 1), ("b", 1)), roads, ("b", "z"))
        self.assertEqual(ground.station_of("m"), "z")

    def test_a_station_is_its_own(self):
        ground = small_ground()
        self.assertEqual([ground.station_of(name) for name in ("a", "d")], ["a", "d"])

    def test_no_station(self):
        ground = Ground((("a", 1), ("b", 2)), (("a", "b", 1, 1),), ())
        self.assertIsNone(ground.station_of("a"))
        self.assertEqual(ground.grounds(), [])
        self.assertEqual(ground.grounds(7, [0]), [])

    def test_risk(self):
        ground = small_ground()
        self.assertEqual([ground.risk(name) for name in "abcde"], [3, 2, 4, 1, 2])

    def test_by_names(self):
        ground = small_ground()
        self.assertEqual(ground.minutes(shut=[0], hour=8, goal="b", start="a"), 21)
        self.assertEqual(ground.road(shut=[0], hour=8, goal="b", start="a"), ["a", "c", "d", "b"])
        self.assertEqual(ground.station_of(shut=[0], hour=8, place="b"), "d")
        self.assertEqual(ground.grounds(shut=[0], hour=8), [("d", ["d", "b", "c"]), ("a", ["a"])])
        self.assertEqual(ground.risk(place="b"), 2)
        self.assertEqual(ground.minutes("a", "b", shut=[0]), 16)
        self.assertEqual(ground.grounds(shut=[0]), [("d", ["d", "b"]), ("a", ["a", "c"])])

    def test_a_long_chain(self):
        places = tuple([(place_name(at), 1) for at in range(40)])
        roads = tuple([(place_name(at), place_name(at + 1), 60, 60) for at in range(39)])
        ground = Ground(places, roads, (place_name(0),))
        self.assertEqual(ground.minutes(place_name(0), place_name(39)), 39 * 60)
        self.assertEqual(ground.minutes(place_name(39), place_name(0), 17), 39 * 120)
        self.assertEqual(ground.road(place_name(39), place_name(0)), [place_name(at) for at in range(39, -1, -1)])
        self.assertEqual(ground.grounds(), [(place_name(0), [place_name(at) for at in range(40)])])

    def test_a_full_ground(self):
        ground = Ground(*full_parts())
        self.assertEqual(ground.minutes(place_name(0), place_name(20)), 10)
        self.assertEqual(ground.minutes(place_name(0), place_name(19), 7), 120 + 9)


class AgainstAllWalksTest(unittest.TestCase):

    def check_asked(self, ground, hour, shut):
        names = [name for name, risk in ground.places]
        for start in names:
            for goal in names:
                minutes, walk = best_walk(ground, start, goal, hour, shut)
                self.assertEqual(ground.minutes(start, goal, hour, shut), minutes)
                self.assertEqual(ground.road(start, goal, hour, shut), walk)
        stations = {name: best_station(ground, name, hour, shut) for name in names}
        self.assertEqual({name: ground.station_of(name, hour, shut) for name in names}, stations)
        served = [(station, [name for name in names if stations[name] == station]) for station in ground.stations]
        self.assertEqual(ground.grounds(hour, shut), served)

    def test_small_grounds(self):
        for seed in range(60):
            ground = Ground(*chance_parts(seed))
            shut = [number for number in range(len(ground.roads)) if (seed + number) % 4 == 0]
            for hour in (6, 7, 9, 16):
                with self.subTest(seed=seed, hour=hour):
                    self.check_asked(ground, hour, [])
                    self.check_asked(ground, hour, shut)


class NoPlaceTest(unittest.TestCase):

    def check_refused(self, thing, asked, *things):
        with self.assertRaises(NoPlace) as caught:
            asked(*things)
        self.assertIs(caught.exception.place, thing)

    def test_any_thing_that_is_no_place(self):
        ground = small_ground()
        for thing in ANY_THINGS + ("f", "ab", ["a", "b"], ("a", 3), ("b", "a", 4, 0)):
            if thing != "a":
                with self.subTest(thing=str(thing)[:40]):
                    self.check_refused(thing, ground.minutes, thing, "a")
                    self.check_refused(thing, ground.minutes, "a", thing)
                    self.check_refused(thing, ground.road, thing, "a")
                    self.check_refused(thing, ground.road, "a", thing)
                    self.check_refused(thing, ground.station_of, thing)
                    self.check_refused(thing, ground.risk, thing)

    def test_of_two_the_start(self):
        ground = small_ground()
        start, goal = ["start"], ["goal"]
        self.check_refused(start, ground.minutes, start, goal)
        self.check_refused(start, ground.road, start, goal)

    def test_a_place_of_another_ground(self):
        ground = Ground((("a", 1),), (), ("a",))
        for asked in (ground.station_of, ground.risk):
            self.check_refused("b", asked, "b")
        self.check_refused("b", ground.minutes, "b", "b", 7, [0])

    def test_what_is_refused_changes_nothing(self):
        ground = small_ground()
        with self.assertRaises(NoPlace):
            ground.minutes("a", "x")
        self.assertTrue(ground == small_ground())
        self.assertEqual(ground.minutes("a", "d"), 10)


class OwnListsTest(unittest.TestCase):

    def test_told_lists_are_the_askers_own(self):
        ground = small_ground()
        before = ground.road("a", "d")
        ground.road("a", "d").append("x")
        ground.road("a", "d").clear()
        self.assertEqual(ground.road("a", "d"), before)
        served = ground.grounds()
        kept = copy.deepcopy(served)
        served[0][1].append("x")
        served[1][1].clear()
        served.clear()
        self.assertEqual(ground.grounds(), kept)

    def test_nothing_asked_later_changes_a_told_list(self):
        ground = small_ground()
        road, served = ground.road("a", "d"), ground.grounds()
        kept = copy.deepcopy((road, served))
        ground.road("a", "c", 7, [0])
        ground.grounds(7, [0, 1])
        self.assertEqual((road, served), kept)

    def test_an_empty_road_is_the_askers_own(self):
        ground = small_ground()
        ground.road("a", "e").append("x")
        self.assertEqual(ground.road("a", "e"), [])

    def test_what_was_handed_in_stays_as_it_was(self):
        ground = small_ground()
        shut = [3, 0, 0]
        ground.minutes("a", "b", 0, shut)
        ground.road("a", "b", 0, shut)
        ground.station_of("a", 0, shut)
        ground.grounds(0, shut)
        self.assertEqual(shut, [3, 0, 0])

    def test_a_shut_list_is_not_kept(self):
        ground = small_ground()
        shut = [0]
        self.assertEqual(ground.minutes("a", "b", 0, shut), 16)
        shut.clear()
        self.assertEqual(ground.minutes("a", "b", 0, shut), 4)
        self.assertEqual(ground.minutes("a", "b"), 4)

    def test_two_grounds_share_nothing(self):
        one, other = small_ground(), small_ground()
        one.grounds()[0][1].append("x")
        one.road("a", "d", 7, [1]).clear()
        self.assertTrue(one == other)
        self.assertEqual(other.grounds(), [("d", ["d"]), ("a", ["b", "a", "c"])])


if __name__ == "__main__":
    unittest.main()
