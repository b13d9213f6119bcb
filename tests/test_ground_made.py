"""Points 5 and 7: what a ground is made of, and when two are equal."""

import unittest

from tests.samples import ANY_THINGS, NOT_NAMES, chance_parts, full_parts, place_name, small_ground
from whistleboard.errors import NoGround
from whistleboard.ground import Ground

PLACES = (("a", 1), ("b", 2), ("c", 3))
ROADS = (("a", "b", 5, 2), ("b", "c", 6, 0))
STATIONS = ("a", "b")


class GroundCase(unittest.TestCase):

    def check_refused(self, part, at, places=PLACES, roads=ROADS, stations=STATIONS):
        with self.assertRaises(NoGround) as caught:
            Ground(places, roads, stations)
        self.assertEqual((caught.exception.part, caught.exception.at), (part, at))


class MadeTest(GroundCase):

    def test_its_values(self):
        ground = Ground(PLACES, ROADS, STATIONS)
        self.assertEqual(ground.places, PLACES)
        self.assertEqual(ground.roads, ROADS)
        self.assertEqual(ground.stations, STATIONS)

    def test_by_names(self):
        ground = Ground(stations=STATIONS, roads=ROADS, places=PLACES)
        self.assertEqual((ground.places, ground.roads, ground.stations), (PLACES, ROADS, STATIONS))

    def test_one_place_alone(self):
        ground = Ground((("a", 1),), (), ())
        self.assertEqual(len(ground), 1)
        self.assertEqual(ground.grounds(), [])

    def test_as_full_as_may_be(self):
        ground = Ground(*full_parts())
        self.assertEqual(repr(ground), "Ground(40, 80, 12)")

    def test_the_bounds_of_each_value(self):
        places = (("a", 1), ("abcdefgh", 4), ("z", 2), ("zzzzzzzz", 3))
        roads = (("a", "z", 1, 0), ("z", "abcdefgh", 60, 60), ("a", "zzzzzzzz", 60, 0), ("a", "abcdefgh", 1, 60))
        ground = Ground(places, roads, ("z", "a", "abcdefgh", "zzzzzzzz"))
        self.assertEqual(len(ground), 4)

    def test_a_place_may_have_many_roads(self):
        places = tuple([(place_name(at), 1) for at in range(40)])
        roads = tuple([(place_name(0), place_name(at), 1, 0) for at in range(1, 40)])
        self.assertEqual(len(Ground(places, roads, ()).roads), 39)


class RefusedPlacesTest(GroundCase):

    def test_no_tuple(self):
        for thing in ANY_THINGS + (list(PLACES), dict(PLACES), set(PLACES)):
            if not isinstance(thing, tuple):
                with self.subTest(thing=str(thing)[:40]):
                    self.check_refused("places", -1, places=thing)

    def test_too_few_or_too_many(self):
        self.check_refused("places", -1, places=(), roads=(), stations=())
        many = tuple([(place_name(at), 1) for at in range(41)])
        self.check_refused("places", -1, places=many, roads=(), stations=())
        self.check_refused("places", -1, places=(None,) * 41)
        self.check_refused("places", -1, places=(None,) * 1500)

    def test_a_place_is_no_such_tuple(self):
        wrong = (["b", 2], ("b",), ("b", 2, 3), (2, "b"), ((), ()), ("b", 2, None), [], "b2", ("b", 2, 2, 2))
        for thing in wrong + tuple([thing for thing in ANY_THINGS if thing != ("a", 1)]):
            with self.subTest(thing=str(thing)[:40]):
                self.check_refused("places", 1, places=(("a", 1), thing, ("c", 3)))

    def test_a_place_has_no_name(self):
        for thing in NOT_NAMES:
            with self.subTest(thing=str(thing)[:40]):
                self.check_refused("places", 2, places=PLACES[:2] + ((thing, 3),))

    def test_a_place_has_no_risk(self):
        for risk in (0, 5, -1, 10 ** 59, True, False, None, "1", [1], (1,), []):
            with self.subTest(risk=risk):
                self.check_refused("places", 0, places=(("a", risk), ("b", 2), ("c", 3)))

    def test_a_name_twice_is_wrong_where_it_comes_again(self):
        self.check_refused("places", 2, places=(("a", 1), ("b", 2), ("a", 3)))
        self.check_refused("places", 1, places=(("a", 1), ("a", 1), ("a", 1)))


class RefusedRoadsTest(GroundCase):

    def test_no_tuple(self):
        for thing in ANY_THINGS + (list(ROADS),):
            if not isinstance(thing, tuple):
                with self.subTest(thing=str(thing)[:40]):
                    self.check_refused("roads", -1, roads=thing)

    def test_too_many(self):
        places, roads, stations = full_parts()
        more = roads + ((place_name(0), place_name(20), 1, 0),)
        self.check_refused("roads", -1, places, more, stations)
        self.check_refused("roads", -1, places, (None,) * 81, stations)

    def test_a_road_is_no_such_tuple(self):
        wrong = (["b", "c", 6, 0], ("b", "c", 6), ("b", "c", 6, 0, 0), ("b", "c"), (6, 0, "b", "c"), "bc60")
        for thing in wrong + ANY_THINGS:
            with self.subTest(thing=str(thing)[:40]):
                self.check_refused("roads", 1, roads=(ROADS[0], thing, ("a", "c", 1, 1)))

    def test_a_road_has_an_end_that_is_no_place(self):
        for thing in NOT_NAMES + ("d", "ab"):
            with self.subTest(thing=str(thing)[:40]):
                self.check_refused("roads", 1, roads=(ROADS[0], (thing, "c", 6, 0)))
                self.check_refused("roads", 1, roads=(ROADS[0], ("c", thing, 6, 0)))

    def test_a_road_has_like_ends(self):
        self.check_refused("roads", 0, roads=(("b", "b", 5, 2),))

    def test_a_road_has_other_minutes(self):
        for thing in (0, 61, -1, 10 ** 59, True, False, None, "5", [5], (5,)):
            with self.subTest(thing=thing):
                self.check_refused("roads", 1, roads=(ROADS[0], ("b", "c", thing, 0)))

    def test_a_road_has_other_slow_minutes(self):
        for thing in (61, -1, 10 ** 59, True, False, None, "5", [5], (5,)):
            with self.subTest(thing=thing):
                self.check_refused("roads", 1, roads=(ROADS[0], ("b", "c", 6, thing)))

    def test_a_road_twice_either_way_about(self):
        self.check_refused("roads", 2, roads=ROADS + (("a", "b", 5, 2),))
        self.check_refused("roads", 2, roads=ROADS + (("b", "a", 9, 9),))
        self.check_refused("roads", 2, roads=ROADS + (("c", "b", 6, 0), ("a", "b", 5, 2)))


class RefusedStationsTest(GroundCase):

    def test_no_tuple(self):
        for thing in ANY_THINGS + (list(STATIONS), "ab"):
            if not isinstance(thing, tuple):
                with self.subTest(thing=str(thing)[:40]):
                    self.check_refused("stations", -1, stations=thing)

    def test_too_many(self):
        places, roads, stations = full_parts()
        self.check_refused("stations", -1, places, roads, stations + (place_name(36),))
        self.check_refused("stations", -1, stations=(None,) * 13)

    def test_a_station_is_no_place(self):
        for thing in NOT_NAMES + ("d", "ab", ("a", 1), ["a", "b"], 10 ** 59, False):
            with self.subTest(thing=str(thing)[:40]):
                self.check_refused("stations", 1, stations=("a", thing, "c"))

    def test_a_station_twice_is_wrong_where_it_comes_again(self):
        self.check_refused("stations", 2, stations=("a", "b", "a"))
        self.check_refused("stations", 1, stations=("a", "a", "a"))


class SeveralWrongTest(GroundCase):

    def test_the_first_wrong_part(self):
        self.check_refused("places", -1, None, None, None)
        self.check_refused("places", 0, (None,), None, None)
        self.check_refused("roads", -1, PLACES, None, None)
        self.check_refused("roads", 0, PLACES, (None,), None)
        self.check_refused("stations", -1, PLACES, ROADS, None)

    def test_the_first_wrong_thing_in_a_part(self):
        self.check_refused("places", 1, (("a", 1), ("b", 9), ("a", 1), None))
        self.check_refused("places", 1, (("a", 1), ("a", 1), ("b", 9)))
        self.check_refused("roads", 1, roads=(ROADS[0], ("b", "a", 5, 2), ("c", "c", 1, 1)))
        self.check_refused("roads", 1, roads=(ROADS[0], ("c", "c", 1, 1), ("b", "a", 5, 2)))
        self.check_refused("stations", 1, stations=("a", "d", "a"))
        self.check_refused("stations", 1, stations=("a", "a", "d"))

    def test_the_size_goes_ahead_of_a_wrong_thing(self):
        self.check_refused("places", -1, (None,) + tuple([(place_name(at), 1) for at in range(40)]))
        self.check_refused("roads", -1, roads=(None,) * 81)
        self.check_refused("stations", -1, stations=("d",) * 13)


class EqualTest(GroundCase):

    def test_the_same_parts(self):
        self.assertTrue(Ground(PLACES, ROADS, STATIONS) == Ground(PLACES, ROADS, STATIONS))
        self.assertFalse(Ground(PLACES, ROADS, STATIONS) != Ground(PLACES, ROADS, STATIONS))

    def test_other_orders_and_roads_the_other_way_about(self):
        turned = tuple([(goal, start, minutes, slow) for start, goal, minutes, slow in ROADS])
        for places in (PLACES, PLACES[::-1]):
            for roads in (ROADS, ROADS[::-1], turned, turned[::-1], (ROADS[0], turned[1])):
                for stations in (STATIONS, STATIONS[::-1]):
                    self.assertTrue(Ground(PLACES, ROADS, STATIONS) == Ground(places, roads, stations))
                    self.assertTrue(Ground(places, roads, stations) == Ground(PLACES, ROADS, STATIONS))

    def test_one_thing_otherwise(self):
        ground = Ground(PLACES, ROADS, STATIONS)
        others = (
            (PLACES[:2] + (("c", 4),), ROADS, STATIONS),
            (PLACES + (("d", 3),), ROADS, STATIONS),
            (PLACES, (("a", "b", 6, 2), ROADS[1]), STATIONS),
            (PLACES, (("a", "b", 5, 3), ROADS[1]), STATIONS),
            (PLACES, (("a", "c", 5, 2), ROADS[1]), STATIONS),
            (PLACES, ROADS[:1], STATIONS),
            (PLACES, ROADS + (("a", "c", 5, 2),), STATIONS),
            (PLACES, (("a", "b", 6, 0), ("b", "c", 5, 2)), STATIONS),
            (PLACES, ROADS, ("a",)),
            (PLACES, ROADS, ("a", "c")),
            (PLACES, ROADS, ("a", "b", "c")),
            ((("a", 2), ("b", 1), ("c", 3)), ROADS, STATIONS),
        )
        for parts in others:
            with self.subTest(parts=parts):
                self.assertFalse(ground == Ground(*parts))
                self.assertTrue(ground != Ground(*parts))

    def test_things_of_other_kinds(self):
        ground = Ground(PLACES, ROADS, STATIONS)
        for thing in ANY_THINGS + ((PLACES, ROADS, STATIONS), str(ground), repr(ground)):
            with self.subTest(thing=str(thing)[:40]):
                self.assertIs(ground == thing, False)
                self.assertIs(ground != thing, True)


class ShownTest(GroundCase):

    def test_length(self):
        self.assertEqual(len(small_ground()), 5)
        self.assertEqual(len(Ground(*full_parts())), 40)

    def test_repr(self):
        self.assertEqual(repr(small_ground()), "Ground(5, 4, 2)")
        self.assertEqual(repr(Ground((("a", 1),), (), ())), "Ground(1, 0, 0)")

    def test_text(self):
        lines = (
            "place d 1", "place b 2", "place a 3", "place c 4", "place e 2",
            "road b a 4 0", "road a c 5 2", "road d b 6 3", "road c d 5 0",
            "station d", "station a",
        )
        self.assertEqual(str(small_ground()), "\n".join(lines))

    def test_text_without_roads_and_stations(self):
        self.assertEqual(str(Ground((("a", 1),), (), ())), "place a 1")
        self.assertEqual(str(Ground((("a", 1),), (), ("a",))), "place a 1\nstation a")

    def test_text_has_each_thing_in_its_order(self):
        for seed in range(40):
            places, roads, stations = chance_parts(seed)
            lines = [("place",) + place for place in places]
            lines += [("road",) + road for road in roads]
            lines += [("station", station) for station in stations]
            text = "\n".join([" ".join([str(word) for word in line]) for line in lines])
            self.assertEqual(str(Ground(places, roads, stations)), text)


if __name__ == "__main__":
    unittest.main()
