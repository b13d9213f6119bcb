"""Point 9: what engines and hands are."""

import copy
import unittest

from tests.samples import ANY_THINGS, NOT_NAMES, full_parts, place_name, put_otherwise, small_engines, small_ground
from whistleboard.crews import are_engines, are_hands
from whistleboard.ground import Ground

ENGINES = small_engines()
HANDS = (
    ("ann", "a", 0, (("drive", 0), ("lead", 9))),
    ("bob", "d", 3, ()),
    ("cy", "d", 1, (("wear", 4),)),
)
SORTS = ("pump", "ladder", "tanker")
SKILLS = ("drive", "lead", "wear")
NUMBERS_BEYOND = (-1, -2, 10 ** 59, -10 ** 59)


def other_things(fitting):
    """Any things but those that fit, names and numbers among them."""
    words = ("b", "f", "Pump", "DRIVE", "pumps", "driver", "pump ")
    things = ANY_THINGS + NOT_NAMES + SORTS + SKILLS + words + ([fitting[0]], (fitting[0],))
    return [thing for thing in things if type(thing) is not int and thing not in fitting]


class TruthCase(unittest.TestCase):

    def setUp(self):
        self.ground = small_ground()

    def check_engines(self, truth, thing):
        self.assertIs(are_engines(self.ground, thing), truth)

    def check_hands(self, truth, thing):
        self.assertIs(are_hands(self.ground, thing), truth)


class EnginesTest(TruthCase):

    def test_engines(self):
        self.check_engines(True, ENGINES)
        for many in range(len(ENGINES)):
            self.check_engines(True, ENGINES[:many])
        self.assertIs(are_engines(thing=ENGINES, ground=self.ground), True)

    def test_none_and_as_many_as_may_be(self):
        many = tuple([(place_name(at), SORTS[at % 3], "a", 1) for at in range(25)])
        self.check_engines(True, ())
        self.check_engines(True, many[:24])
        self.check_engines(False, many)
        self.check_engines(False, (None,) * 1500)

    def test_what_is_no_tuple(self):
        for thing in ANY_THINGS + (list(ENGINES), [], {}, "pump"):
            if thing != ():
                with self.subTest(thing=str(thing)[:40]):
                    self.check_engines(False, thing)

    def test_each_engine_put_otherwise(self):
        engine = ENGINES[1]
        sizes = (engine[:3], engine[:1], engine + (1,), engine + (None,))
        wrong = sizes + (list(engine), (engine,), engine[::-1], HANDS[0])
        for at in range(len(ENGINES)):
            for thing in ANY_THINGS + wrong:
                with self.subTest(at=at, thing=str(thing)[:40]):
                    self.check_engines(False, put_otherwise(ENGINES, at, thing))

    def check_thing(self, truth, at, thing):
        """An engine with this thing at this place, among others and alone."""
        for which in range(len(ENGINES)):
            engine = put_otherwise(ENGINES[which], at, thing)
            with self.subTest(engine=str(engine)[:60]):
                self.check_engines(truth, put_otherwise(ENGINES, which, engine))
                self.check_engines(truth, (engine,))

    def test_names(self):
        for name in ("a", "z", "abcdefgh", "zzzzzzzz", "pump", "d"):
            self.check_thing(True, 0, name)
        for thing in NOT_NAMES + tuple([thing for thing in ANY_THINGS if thing != "a"]):
            self.check_thing(False, 0, thing)

    def test_sorts(self):
        for sort in SORTS:
            self.check_thing(True, 1, sort)
        for thing in other_things(SORTS) + [0, 1, 2]:
            self.check_thing(False, 1, thing)

    def test_stations(self):
        for station in ("a", "d"):
            self.check_thing(True, 2, station)
        for thing in other_things(("a", "d")) + ["b", "c", "e", "f", 0, 1]:
            self.check_thing(False, 2, thing)

    def test_seats(self):
        for seats in range(1, 10):
            self.check_thing(True, 3, seats)
        for thing in (0, 10) + NUMBERS_BEYOND + tuple(other_things((1,))):
            self.check_thing(False, 3, thing)

    def test_truths_are_no_seats(self):
        self.check_thing(False, 3, True)
        self.check_thing(False, 3, False)

    def test_a_name_twice(self):
        for one in range(4):
            for other in range(4):
                if one != other:
                    like = put_otherwise(ENGINES[one], 0, ENGINES[other][0])
                    self.check_engines(False, put_otherwise(ENGINES, one, like))
        self.check_engines(False, (ENGINES[0], ENGINES[0]))

    def test_an_engine_may_have_the_name_of_its_station(self):
        self.check_engines(True, (("a", "pump", "a", 1), ("d", "pump", "a", 1)))

    def test_other_grounds(self):
        engines = (("red", "pump", "a", 1),)
        self.assertIs(are_engines(Ground((("a", 1),), (), ("a",)), engines), True)
        self.assertIs(are_engines(Ground((("a", 1),), (), ()), engines), False)
        self.assertIs(are_engines(Ground((("b", 1),), (), ("b",)), engines), False)
        self.assertIs(are_engines(Ground((("b", 1),), (), ()), ()), True)
        full = Ground(*full_parts())
        self.assertIs(are_engines(full, tuple([(name, "pump", name, 9) for name in full.stations])), True)


class HandsTest(TruthCase):

    def test_hands(self):
        self.check_hands(True, HANDS)
        for many in range(len(HANDS)):
            self.check_hands(True, HANDS[:many])
        self.assertIs(are_hands(thing=HANDS, ground=self.ground), True)

    def test_none_and_as_many_as_may_be(self):
        many = tuple([(place_name(at), "d", at % 4, ()) for at in range(61)])
        self.check_hands(True, ())
        self.check_hands(True, many[:60])
        self.check_hands(False, many)
        self.check_hands(False, (None,) * 1500)

    def test_what_is_no_tuple(self):
        for thing in ANY_THINGS + (list(HANDS), [], {}, "drive"):
            if thing != ():
                with self.subTest(thing=str(thing)[:40]):
                    self.check_hands(False, thing)

    def test_each_hand_put_otherwise(self):
        hand = HANDS[1]
        sizes = (hand[:3], hand[:1], hand + ((),), hand + (None,))
        wrong = sizes + (list(hand), (hand,), hand[::-1], ENGINES[0])
        for at in range(len(HANDS)):
            for thing in ANY_THINGS + wrong:
                with self.subTest(at=at, thing=str(thing)[:40]):
                    self.check_hands(False, put_otherwise(HANDS, at, thing))

    def check_thing(self, truth, at, thing):
        """A hand with this thing at this place, among others and alone."""
        for which in range(len(HANDS)):
            hand = put_otherwise(HANDS[which], at, thing)
            with self.subTest(hand=str(hand)[:60]):
                self.check_hands(truth, put_otherwise(HANDS, which, hand))
                self.check_hands(truth, (hand,))

    def test_names(self):
        for name in ("a", "z", "abcdefgh", "zzzzzzzz", "drive", "d"):
            self.check_thing(True, 0, name)
        for thing in NOT_NAMES + tuple([thing for thing in ANY_THINGS if thing != "a"]):
            self.check_thing(False, 0, thing)

    def test_stations(self):
        for station in ("a", "d"):
            self.check_thing(True, 1, station)
        for thing in other_things(("a", "d")) + ["b", "c", "e", "f", 0, 1]:
            self.check_thing(False, 1, thing)

    def test_shifts(self):
        for shift in range(4):
            self.check_thing(True, 2, shift)
        for thing in (4, 5) + NUMBERS_BEYOND + tuple(other_things((1,))):
            self.check_thing(False, 2, thing)

    def test_truths_are_no_shifts(self):
        self.check_thing(False, 2, True)
        self.check_thing(False, 2, False)

    def test_a_name_twice(self):
        for one in range(3):
            for other in range(3):
                if one != other:
                    like = put_otherwise(HANDS[one], 0, HANDS[other][0])
                    self.check_hands(False, put_otherwise(HANDS, one, like))
        self.check_hands(False, (HANDS[0], HANDS[0]))

    def test_a_hand_may_have_the_name_of_a_station(self):
        self.check_hands(True, (("a", "a", 0, ()), ("d", "a", 0, ())))

    def test_other_grounds(self):
        hands = (("ann", "a", 0, ()),)
        self.assertIs(are_hands(Ground((("a", 1),), (), ("a",)), hands), True)
        self.assertIs(are_hands(Ground((("a", 1),), (), ()), hands), False)
        self.assertIs(are_hands(Ground((("b", 1),), (), ()), ()), True)


class SkillsTest(TruthCase):

    def check_skills(self, truth, skills):
        with self.subTest(skills=str(skills)[:60]):
            self.check_hands(truth, (("ann", "a", 0, skills),))
            self.check_hands(truth, HANDS + (("dan", "a", 0, skills),))

    def test_none_and_as_many_as_may_be(self):
        skills = (("drive", 1), ("lead", 2), ("wear", 3), ("drive", 4), ("lead", 5), ("wear", 6))
        for many in range(6):
            self.check_skills(True, skills[:many])
        self.check_skills(False, skills)
        self.check_skills(False, (None,) * 1400)

    def test_a_skill_may_be_there_again(self):
        self.check_skills(True, (("drive", 1), ("drive", 1)))
        self.check_skills(True, (("drive", 9), ("drive", 0), ("drive", 4), ("drive", 9), ("drive", 1)))

    def test_what_is_no_tuple(self):
        for thing in ANY_THINGS + ([("drive", 1)], "drive", ("drive", 1)):
            if thing != ():
                self.check_skills(False, thing)

    def test_each_skill_put_otherwise(self):
        skills = (("drive", 1), ("lead", 2), ("wear", 3))
        wrong = (["drive", 1], ("drive",), ("drive", 1, 1), (1, "drive"), "drive", (("drive", 1),))
        for at in range(3):
            for thing in ANY_THINGS + wrong:
                self.check_skills(False, put_otherwise(skills, at, thing))

    def test_words(self):
        for word in SKILLS:
            self.check_skills(True, ((word, 1),))
        for thing in other_things(SKILLS) + [0, 1]:
            self.check_skills(False, ((thing, 1),))
            self.check_skills(False, (("wear", 1), (thing, 1), ("drive", 1)))

    def test_last_days(self):
        for day in range(10):
            self.check_skills(True, (("lead", day),))
        for thing in (10, 11) + NUMBERS_BEYOND + tuple(other_things((1,))):
            self.check_skills(False, (("lead", thing),))
            self.check_skills(False, (("lead", 1), ("lead", thing)))

    def test_truths_are_no_days(self):
        self.check_skills(False, (("lead", True),))
        self.check_skills(False, (("lead", False),))


class HandedInTest(TruthCase):

    def test_what_was_handed_in_stays_as_it_was(self):
        nested = ([["a"]], (["red", "pump", "a", 1],), (("ann", "a", 0, [("drive", 1)]),))
        for thing in nested + (list(ENGINES), list(HANDS)):
            kept = copy.deepcopy(thing)
            self.check_engines(False, thing)
            self.check_hands(False, thing)
            self.assertEqual(thing, kept)
        self.assertTrue(self.ground == small_ground())


if __name__ == "__main__":
    unittest.main()
