"""Point 12: what a deed is, and the first fault of what is none."""

import copy
import unittest

from tests.samples import ANY_THINGS, DEEP, NOT_NAMES, full_parts, place_name
from tests.samples import put_otherwise, small_engines, small_ground
from whistleboard.deeds import fault
from whistleboard.ground import Ground

# A deed of each word, on the small ground with the small engines.
DEEDS = (
    ("call", "e", "house"),
    ("again", 1),
    ("make", 1, 1),
    ("stop", 1),
    ("send", "redone", 1),
    ("there", "redtwo"),
    ("back", "tall"),
    ("home", "wet"),
    ("off", "redone"),
    ("on", "redone"),
    ("stand", "redone", "a"),
    ("lend", "redone", "d"),
    ("shut", 0),
    ("clear", 3),
    ("nothing",),
)
PLACES = ("a", "b", "c", "d", "e")
STATIONS = ("a", "d")
ENGINES = ("redone", "redtwo", "tall", "wet")
KINDS = ("car", "chimney", "grass", "house", "people", "works")
CALLS = (1, 2, 199, 200)
PUMPS = (1, 2, 19, 20)
ROADS = (0, 1, 2, 3)

# What fits behind each word, place by place.
FITTING = {
    "call": (PLACES, KINDS),
    "again": (CALLS,),
    "make": (CALLS, PUMPS),
    "stop": (CALLS,),
    "send": (ENGINES, CALLS),
    "there": (ENGINES,),
    "back": (ENGINES,),
    "home": (ENGINES,),
    "off": (ENGINES,),
    "on": (ENGINES,),
    "stand": (ENGINES, STATIONS),
    "lend": (ENGINES, STATIONS),
    "shut": (ROADS,),
    "clear": (ROADS,),
    "nothing": (),
}
NUMBERS_BEYOND = {CALLS: (0, -1, 201), PUMPS: (0, -1, 21), ROADS: (-1, 4)}
NUMBERS_OF_ALL = (-2, 10 ** 59, -10 ** 59)


def is_whole(thing):
    return type(thing) is int


def things_beside(fitting):
    """Things that are none of those that fit: any things, and those one beyond."""
    texts = NOT_NAMES + PLACES + STATIONS + ENGINES + KINDS + ("f", "redthree", "boat", "House", "call", "1", "0")
    nested = ([fitting[0]], (fitting[0],), [[fitting[0]]], DEEP)
    if isinstance(fitting[0], str):
        return [thing for thing in ANY_THINGS + texts + nested + (3, 200) if thing not in fitting]
    others = [thing for thing in ANY_THINGS + texts + nested if not is_whole(thing)]
    return others + list(NUMBERS_BEYOND[fitting]) + list(NUMBERS_OF_ALL)


class FaultCase(unittest.TestCase):

    def setUp(self):
        self.ground = small_ground()
        self.engines = small_engines()

    def told(self, thing):
        told = fault(self.ground, self.engines, thing)
        self.assertIs(type(told), int)
        return told


class DeedsTest(FaultCase):

    def test_a_deed_of_each_word(self):
        self.assertEqual([deed[0] for deed in DEEDS], list(FITTING))
        for deed in DEEDS:
            with self.subTest(deed=deed):
                self.assertEqual(self.told(deed), -1)

    def test_each_thing_that_fits(self):
        for deed in DEEDS:
            for at, fitting in enumerate(FITTING[deed[0]]):
                for thing in fitting:
                    with self.subTest(deed=deed, at=at + 1, thing=thing):
                        self.assertEqual(self.told(put_otherwise(deed, at + 1, thing)), -1)

    def test_by_names(self):
        self.assertEqual(fault(thing=("shut", 4), engines=self.engines, ground=self.ground), 1)
        self.assertEqual(fault(thing=("shut", 3), engines=self.engines, ground=self.ground), -1)


class FaultsTest(FaultCase):

    def test_each_thing_put_otherwise(self):
        for deed in DEEDS:
            for at, fitting in enumerate(FITTING[deed[0]]):
                for thing in things_beside(fitting):
                    with self.subTest(deed=deed, at=at + 1, thing=str(thing)[:40]):
                        self.assertEqual(self.told(put_otherwise(deed, at + 1, thing)), at + 1)

    def test_truths_are_no_numbers(self):
        roads = (("shut", False), ("shut", True), ("clear", False), ("clear", True))
        for deed in (("again", True), ("stop", True), ("make", True, 1)) + roads:
            with self.subTest(deed=deed):
                self.assertEqual(self.told(deed), 1)
        for deed in (("make", 1, True), ("send", "redone", True)):
            with self.subTest(deed=deed):
                self.assertEqual(self.told(deed), 2)

    def test_the_first_of_two_faults(self):
        deeds = (("call", "f", "boat"), ("make", 0, 0), ("send", "x", 0), ("stand", "x", "b"), ("lend", None, None))
        for deed in deeds:
            with self.subTest(deed=deed):
                self.assertEqual(self.told(deed), 1)

    def test_a_place_that_is_no_station(self):
        for word in ("stand", "lend"):
            for place in ("b", "c", "e"):
                self.assertEqual(self.told((word, "redone", place)), 2)

    def test_things_at_each_others_places(self):
        turned = (("call", "house", "e"), ("send", 1, "redone"), ("stand", "a", "redone"), ("lend", "d", "redone"))
        for deed in turned:
            with self.subTest(deed=deed):
                self.assertEqual(self.told(deed), 1)

    def test_too_few_or_too_many_things(self):
        for deed in DEEDS:
            for many in range(len(deed)):
                with self.subTest(deed=deed[:many]):
                    self.assertEqual(self.told(deed[:many]), 0)
            for more in ANY_THINGS + (deed[-1],):
                with self.subTest(deed=deed, more=str(more)[:40]):
                    self.assertEqual(self.told(deed + (more,)), 0)
            self.assertEqual(self.told(deed + (None,) * 1400), 0)

    def test_the_size_goes_ahead_of_a_wrong_thing(self):
        few = (("call", "f"), ("make", 0), ("send", "x"), ("stand", None))
        many = (("call", "f", "boat", 1), ("again", 0, 0), ("shut", -1, -1), ("nothing", None))
        for deed in few + many:
            with self.subTest(deed=deed):
                self.assertEqual(self.told(deed), 0)

    def test_another_word(self):
        words = ("", "Call", "CALL", "call ", " call", "calls", "cal", "right", "draft", "house", "redone", "a")
        for deed in DEEDS:
            for word in ANY_THINGS + words + ([deed[0]], (deed[0],)):
                with self.subTest(deed=deed, word=str(word)[:40]):
                    self.assertEqual(self.told(put_otherwise(deed, 0, word)), 0)

    def test_a_list_for_a_tuple(self):
        for deed in DEEDS:
            with self.subTest(deed=deed):
                self.assertEqual(self.told(list(deed)), 0)
                self.assertEqual(self.told((list(deed),)), 0)
                self.assertEqual(self.told((deed,)), 0)

    def test_things_that_are_no_deeds(self):
        for thing in ANY_THINGS + ("nothing", "call", ["nothing"], (("nothing",),), (None,) * 1500):
            with self.subTest(thing=str(thing)[:40]):
                self.assertEqual(self.told(thing), 0)


class OtherRoomsTest(FaultCase):

    def test_a_ground_without_roads(self):
        ground = Ground((("a", 1),), (), ("a",))
        for word in ("shut", "clear"):
            for number in (0, 1, -1, 80, False):
                with self.subTest(word=word, number=number):
                    self.assertEqual(fault(ground, (), (word, number)), 1)

    def test_a_ground_without_stations(self):
        ground = Ground((("a", 1),), (), ())
        self.assertEqual(fault(ground, (), ("call", "a", "car")), -1)
        for word in ("stand", "lend"):
            self.assertEqual(fault(ground, (), (word, "x", "a")), 1)

    def test_no_engines(self):
        for word in ("there", "back", "home", "off", "on"):
            self.assertEqual(fault(self.ground, (), (word, "redone")), 1)
        self.assertEqual(fault(self.ground, (), ("nothing",)), -1)
        self.assertEqual(fault(self.ground, (), ("send", "redone", 1)), 1)

    def test_a_full_ground(self):
        ground = Ground(*full_parts())
        engines = tuple([(place_name(at), "pump", place_name(0), 1) for at in range(24)])
        self.assertEqual(fault(ground, engines, ("shut", 79)), -1)
        self.assertEqual(fault(ground, engines, ("shut", 80)), 1)
        self.assertEqual(fault(ground, engines, ("call", place_name(39), "works")), -1)
        self.assertEqual(fault(ground, engines, ("call", place_name(40), "works")), 1)
        self.assertEqual(fault(ground, engines, ("send", place_name(23), 200)), -1)
        self.assertEqual(fault(ground, engines, ("send", place_name(24), 200)), 1)
        self.assertEqual(fault(ground, engines, ("stand", place_name(0), place_name(33))), -1)
        self.assertEqual(fault(ground, engines, ("stand", place_name(0), place_name(36))), 2)

    def test_an_engine_may_have_the_name_of_a_place(self):
        engines = (("b", "pump", "a", 1),)
        self.assertEqual(fault(self.ground, engines, ("there", "b")), -1)
        self.assertEqual(fault(self.ground, engines, ("there", "a")), 1)
        self.assertEqual(fault(self.ground, engines, ("stand", "b", "b")), 2)


class HandedInTest(FaultCase):

    def test_what_was_handed_in_stays_as_it_was(self):
        deeds = (["call", ["a"], "house"], ("call", ["a"], ["house"]), (["call"], "a", "house"))
        for thing in deeds + ([], [["nothing"]]):
            kept = copy.deepcopy(thing)
            self.told(thing)
            self.assertEqual(thing, kept)
        self.assertTrue(self.ground == small_ground())
        self.assertEqual(self.engines, small_engines())

    def test_asking_changes_no_later_answer(self):
        for again in range(2):
            self.assertEqual([self.told(deed) for deed in DEEDS], [-1] * len(DEEDS))
            self.assertEqual(self.told(("call", "f", "house")), 1)


if __name__ == "__main__":
    unittest.main()
