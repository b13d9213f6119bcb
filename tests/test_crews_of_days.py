"""Point 9: the crews of a day."""

import copy
import itertools
import random
import unittest

from tests.samples import place_name
from whistleboard.crews import crews

DAYS = range(7)
# On which of four days each shift is on watch: the day and the shift together leave 0 or 1.
ON_WATCH = {0: (0, 1), 1: (0, 3), 2: (2, 3), 3: (1, 2)}
ALWAYS = (("drive", 9),)


def is_on(hand, day):
    return day % 4 in ON_WATCH[hand[2]]


def fits(engine, hand, day):
    """Whether the hand may drive the engine on the day."""
    able = [last for skill, last in hand[3] if skill == "drive" and last >= day]
    return hand[1] == engine[2] and is_on(hand, day) and able != []


def most_drivers(engines, hands, day):
    """The greatest number of engines that can have a driver, by trying all."""
    choices = [[None] + [hand[0] for hand in hands if fits(engine, hand, day)] for engine in engines]
    best = 0
    for drivers in itertools.product(*choices):
        given = [name for name in drivers if name is not None]
        if len(given) == len(set(given)):
            best = max(best, len(given))
    return best


def others_due(engines, hands, day, drivers):
    """For these drivers the others of each engine, hand by hand by the words of the point."""
    free = {hand[0]: hand[1] for hand in hands if is_on(hand, day) and hand[0] not in drivers}
    told = []
    for engine, driver in zip(engines, drivers):
        others = []
        for name in sorted(free):
            if driver is not None and free[name] == engine[2] and 1 + len(others) < engine[3]:
                others.append(name)
        for name in others:
            del free[name]
        told.append(others)
    return told


def chance_crews(seed, most_engines, most_hands):
    """Engines and hands at three stations, the same ones for the same seed."""
    chance = random.Random(seed)
    stations = ("a", "b", "c")
    names = chance.sample([place_name(at) for at in range(200)], most_hands)
    engines = tuple([
        (place_name(at), chance.choice(("pump", "ladder", "tanker")), chance.choice(stations), chance.randint(1, 5))
        for at in range(chance.randint(0, most_engines))
    ])
    hands = tuple([
        (name, chance.choice(stations), chance.randint(0, 3), chance_skills(chance))
        for name in names[:chance.randint(0, most_hands)]
    ])
    return engines, hands


def chance_skills(chance):
    """At most five skills, perhaps one of them again."""
    words = ("drive", "lead", "wear")
    return tuple([(chance.choice(words), chance.randint(0, 9)) for skill in range(chance.randint(0, 5))])


class CrewsCase(unittest.TestCase):

    def check_crews(self, engines, hands, day, many):
        """What is told is right by the words of the point, and so many engines have a driver."""
        told = crews(engines, hands, day)
        self.assertIs(type(told), list)
        self.assertEqual([type(row) for row in told], [tuple] * len(engines))
        self.assertEqual([len(row) for row in told], [3] * len(engines))
        self.assertEqual([row[0] for row in told], [engine[0] for engine in engines])
        by_name = {hand[0]: hand for hand in hands}
        drivers = [row[1] for row in told]
        for engine, driver in zip(engines, drivers):
            if driver is not None:
                self.assertTrue(fits(engine, by_name[driver], day))
        self.assertEqual(len(drivers) - drivers.count(None), many)
        self.assertEqual([type(row[2]) for row in told], [list] * len(engines))
        self.assertEqual([row[2] for row in told], others_due(engines, hands, day, drivers))
        manned = [name for name in drivers if name is not None] + [name for row in told for name in row[2]]
        self.assertEqual(len(manned), len(set(manned)))


class WatchTest(CrewsCase):

    def test_each_shift_on_each_day(self):
        engines = (("red", "pump", "a", 2),)
        on = {
            0: [True, True, False, False, True, True, False],
            1: [True, False, False, True, True, False, False],
            2: [False, False, True, True, False, False, True],
            3: [False, True, True, False, False, True, True],
        }
        for shift in range(4):
            hands = (("ann", "a", shift, ALWAYS),)
            told = [crews(engines, hands, day) for day in DAYS]
            expected = [[("red", "ann" if there else None, [])] for there in on[shift]]
            self.assertEqual(told, expected, shift)

    def test_others_are_on_watch_too(self):
        engines = (("red", "pump", "a", 9),)
        drivers = tuple([(f"z{'abcd'[shift]}", "a", shift, ALWAYS) for shift in (0, 2)])
        hands = drivers + (("ann", "a", 0, ()), ("bob", "a", 1, ()), ("cy", "a", 2, ()), ("dan", "a", 3, ()))
        self.assertEqual(crews(engines, hands, 0), [("red", "za", ["ann", "bob"])])
        self.assertEqual(crews(engines, hands, 1), [("red", "za", ["ann", "dan"])])
        self.assertEqual(crews(engines, hands, 2), [("red", "zc", ["cy", "dan"])])
        self.assertEqual(crews(engines, hands, 3), [("red", "zc", ["bob", "cy"])])
        self.assertEqual(crews(engines, hands, 4), crews(engines, hands, 0))
        self.assertEqual(crews(engines, hands, 5), crews(engines, hands, 1))
        self.assertEqual(crews(engines, hands, 6), crews(engines, hands, 2))


class DriversTest(CrewsCase):

    def test_the_skill_runs_out_ahead_of_the_day_on_it_and_behind_it(self):
        engines = (("red", "pump", "a", 1),)
        for day in DAYS:
            shift = (4 - day) % 4
            for last in range(10):
                with self.subTest(day=day, last=last):
                    driver = "ann" if last >= day else None
                    told = crews(engines, (("ann", "a", shift, (("drive", last),)),), day)
                    self.assertEqual(told, [("red", driver, [])])

    def test_other_skills_are_not_enough(self):
        engines = (("red", "pump", "a", 5),)
        for skills in ((), (("lead", 9),), (("wear", 9),), (("lead", 9), ("wear", 9), ("drive", 0))):
            with self.subTest(skills=skills):
                self.assertEqual(crews(engines, (("ann", "a", 3, skills),), 1), [("red", None, [])])

    def test_the_skill_again_with_another_last_day(self):
        engines = (("red", "pump", "a", 1),)
        early, late = ("drive", 0), ("drive", 5)
        for skills in ((early, late), (late, early), (("lead", 0), ("drive", 1), ("wear", 0))):
            with self.subTest(skills=skills):
                self.assertEqual(crews(engines, (("ann", "a", 0, skills),), 1), [("red", "ann", [])])
        self.assertEqual(crews(engines, (("ann", "a", 0, (("drive", 0), ("drive", 0))),), 1), [("red", None, [])])

    def test_a_hand_of_another_station(self):
        self.assertEqual(crews((("red", "pump", "a", 5),), (("ann", "b", 0, ALWAYS),), 0), [("red", None, [])])

    def test_each_sort_has_a_driver(self):
        for sort in ("pump", "ladder", "tanker"):
            self.assertEqual(crews((("red", sort, "a", 1),), (("ann", "a", 0, ALWAYS),), 0), [("red", "ann", [])])

    def test_fewer_drivers_than_engines(self):
        engines = tuple([(name, "pump", "a", 3) for name in ("red", "blue", "old")])
        hands = (("ann", "a", 0, ALWAYS), ("bob", "a", 0, ()), ("cy", "a", 0, ALWAYS), ("dan", "a", 0, ()))
        self.check_crews(engines, hands, 0, 2)
        self.check_crews(engines, hands[:2], 0, 1)
        self.check_crews(engines, hands[1:2], 0, 0)

    def test_one_hand_for_several_engines(self):
        engines = tuple([(place_name(at), "pump", "a", 9) for at in range(24)])
        self.check_crews(engines, (("ann", "a", 0, ALWAYS),), 1, 1)
        self.check_crews(engines, (("ann", "a", 0, ALWAYS),), 2, 0)

    def test_engines_of_several_stations(self):
        stations = (("red", "b"), ("blue", "a"), ("old", "b"), ("new", "c"))
        engines = tuple([(name, "pump", station, 2) for name, station in stations])
        hands = (
            ("ann", "a", 0, ALWAYS), ("bob", "b", 0, ALWAYS), ("cy", "b", 0, ()),
            ("dan", "a", 0, ()), ("ed", "c", 2, ALWAYS), ("fay", "c", 0, ()),
        )
        self.check_crews(engines, hands, 0, 2)
        told = crews(engines, hands, 0)
        self.assertEqual(told[1], ("blue", "ann", ["dan"]))
        self.assertEqual(told[3], ("new", None, []))
        self.assertEqual(sorted([row[2] for row in (told[0], told[2])]), [[], ["cy"]])

    def test_no_engines_and_no_hands(self):
        self.assertEqual(crews((), (), 0), [])
        self.assertEqual(crews((), (("ann", "a", 0, ALWAYS),), 0), [])
        engines = (("red", "pump", "a", 9), ("old", "pump", "b", 1))
        self.assertEqual(crews(engines, (), 6), [("red", None, []), ("old", None, [])])


class OthersTest(CrewsCase):

    def test_by_name_till_the_seats_are_full(self):
        hands = (("zed", "a", 0, ALWAYS),) + tuple([(name, "a", 0, ()) for name in ("dan", "ann", "bob", "abe")])
        names = ["abe", "ann", "bob", "dan"]
        for seats in range(1, 10):
            told = crews((("red", "pump", "a", seats),), hands, 0)
            self.assertEqual(told, [("red", "zed", names[:seats - 1])])

    def test_more_hands_than_seats_go_on_to_the_next_engine(self):
        engines = (("old", "pump", "a", 3), ("blue", "pump", "a", 2), ("new", "pump", "a", 4))
        names = ("k", "b", "f", "c", "e", "d", "g")
        drivers = tuple([(name, "a", 1, ALWAYS) for name in ("x", "y", "z")])
        hands = tuple([(name, "a", 0, ()) for name in names]) + drivers
        self.check_crews(engines, hands, 0, 3)
        self.assertEqual([row[2] for row in crews(engines, hands, 0)], [["b", "c"], ["d"], ["e", "f", "g"]])

    def test_an_engine_without_a_driver_takes_nobody(self):
        engines = (("old", "pump", "a", 3), ("blue", "pump", "b", 5))
        hands = (("ann", "a", 0, ()), ("bob", "a", 0, ()), ("cy", "b", 0, ALWAYS), ("dan", "b", 0, ()))
        self.assertEqual(crews(engines, hands, 0), [("old", None, []), ("blue", "cy", ["dan"])])

    def test_drivers_who_drive_nothing_are_among_the_others(self):
        hands = (("ann", "a", 0, ALWAYS), ("bob", "a", 0, ALWAYS), ("cy", "a", 0, ALWAYS))
        engines = (("red", "pump", "a", 3),)
        self.check_crews(engines, hands, 0, 1)
        driver, others = crews(engines, hands, 0)[0][1:]
        self.assertEqual(sorted([driver] + others), ["ann", "bob", "cy"])

    def test_a_later_engines_driver_is_not_taken(self):
        engines = (("old", "pump", "a", 9), ("blue", "pump", "a", 9))
        hands = (("ann", "a", 0, ALWAYS), ("bob", "a", 0, ALWAYS), ("cy", "a", 0, ()))
        self.check_crews(engines, hands, 0, 2)
        self.assertEqual([row[2] for row in crews(engines, hands, 0)], [["cy"], []])

    def test_whose_skill_ran_out_is_among_the_others(self):
        hands = (("ann", "a", 3, (("drive", 0),)), ("bob", "a", 3, (("drive", 1),)))
        self.assertEqual(crews((("red", "pump", "a", 2),), hands, 1), [("red", "bob", ["ann"])])


class ManyTest(CrewsCase):

    def test_against_all_drivers(self):
        for seed in range(120):
            engines, hands = chance_crews(seed, 4, 9)
            for day in DAYS:
                with self.subTest(seed=seed, day=day):
                    self.check_crews(engines, hands, day, most_drivers(engines, hands, day))

    def test_as_many_as_may_be(self):
        for seed in range(20):
            engines, hands = chance_crews(seed, 24, 60)
            for day in DAYS:
                with self.subTest(seed=seed, day=day):
                    # Hands of a station may drive any of its engines: the lesser number of both is the most.
                    most = 0
                    for station in ("a", "b", "c"):
                        some = [engine for engine in engines if engine[2] == station]
                        able = [hand for hand in hands if some and fits(some[0], hand, day)]
                        most += min(len(some), len(able))
                    self.check_crews(engines, hands, day, most)

    def test_a_full_brigade(self):
        engines = tuple([(place_name(at), "pump", "a", 9) for at in range(24)])
        hands = tuple([(place_name(at), "a", 0, ALWAYS) for at in range(60)])
        self.check_crews(engines, hands, 0, 24)
        self.check_crews(engines, hands, 2, 0)


class OwnListsTest(CrewsCase):

    ENGINES = (("red", "pump", "a", 2), ("old", "pump", "b", 3), ("new", "pump", "c", 3))
    HANDS = (("ann", "a", 0, ALWAYS), ("bob", "a", 0, ()), ("cy", "b", 0, ALWAYS))

    def test_told_lists_are_the_askers_own(self):
        told = crews(self.ENGINES, self.HANDS, 0)
        kept = copy.deepcopy(told)
        later = crews(self.ENGINES, self.HANDS, 0)
        for row in told:
            row[2].append("x")
        told[0][2].clear()
        told.clear()
        self.assertEqual(later, kept)
        self.assertEqual(crews(self.ENGINES, self.HANDS, 0), kept)

    def test_no_two_of_the_lists_are_one(self):
        told = crews(self.ENGINES, (), 0)
        told[0][2].append("x")
        self.assertEqual(told, [("red", None, ["x"]), ("old", None, []), ("new", None, [])])

    def test_nothing_asked_later_changes_a_told_list(self):
        told = crews(self.ENGINES, self.HANDS, 0)
        kept = copy.deepcopy(told)
        crews(self.ENGINES, self.HANDS, 2)
        crews(self.ENGINES[:1], self.HANDS[:1], 0)
        self.assertEqual(told, kept)

    def test_what_was_handed_in_stays_as_it_was(self):
        engines, hands = copy.deepcopy(self.ENGINES), copy.deepcopy(self.HANDS)
        crews(engines, hands, 0)
        self.assertEqual((engines, hands), (self.ENGINES, self.HANDS))

    def test_by_names(self):
        told = crews(day=0, hands=self.HANDS, engines=self.ENGINES)
        self.assertEqual(told, crews(self.ENGINES, self.HANDS, 0))


if __name__ == "__main__":
    unittest.main()
