"""Point 20: what a call lacks, the nearest engines, what stays short, and who looks at such a list."""

import copy
import itertools
import unittest

from tests.samples import ANY_THINGS, chance_room, town, town_engines, written_room
from whistleboard.errors import NoCall, NoProof
from whistleboard.ground import Ground
from whistleboard.sending import lacking, look_nearest, nearest, short

SORTS = ("pump", "ladder", "tanker")
DUE = {
    "car": (1, 0, 0), "chimney": (1, 0, 0), "grass": (1, 0, 1),
    "house": (2, 1, 0), "people": (1, 1, 0), "works": (3, 1, 1),
}
WORKS = ("call", "quay", "works")


def coming(room, number, at):
    """For each free engine that can come: its sort, its minutes, its name."""
    told = []
    for name, sort, station, seats in room.engines:
        word, place, own, under = room.engine(name, at)
        minutes = room.ground.minutes(place, room.call(number, at)[0], at % 1440 // 60, room.shut(at))
        if word in ("home", "back") and minutes is not None:
            told.append((SORTS.index(sort), minutes + (2 if word == "home" else 0), name))
    return sorted(told)


def looked(room, number, at, thing):
    """Where the looker finds the thing wrong, None where it lets it by."""
    kept = copy.deepcopy(thing)
    where = None
    try:
        told = look_nearest(room, number, at, thing)
        assert told is None
    except NoProof as refusal:
        where = refusal.where
    assert thing == kept
    return where


class LackingTest(unittest.TestCase):

    def test_each_kind_with_none_under_it(self):
        for kind, due in DUE.items():
            room = written_room([(5, ("call", "quay", kind)), (6, ("call", "mill", kind))])
            self.assertEqual(lacking(room, 1, 6), due)
            # Mill has the risk 1: a pump more.
            self.assertEqual(lacking(room, 2, 6), (due[0] + 1,) + due[1:])
            self.assertIs(type(lacking(room, 1, 6)), tuple)

    def test_some_and_more_than_enough_under_it(self):
        room = written_room([(5, WORKS), (6, ("send", "redone", 1)), (7, ("send", "wet", 1)), (8, ("there", "wet"))])
        self.assertEqual([lacking(room, 1, at) for at in (5, 6, 7, 8)], [(3, 1, 1), (2, 1, 1), (2, 1, 0), (2, 1, 0)])
        room = written_room([(5, ("call", "quay", "car"))] + [(6, ("send", name, 1)) for name in
                                                              ("redone", "redtwo", "tall", "wet")])
        self.assertEqual(lacking(room, 1, 6), (0, 0, 0))

    def test_pumps_asked_for(self):
        room = written_room([(5, WORKS), (6, ("make", 1, 2)), (7, ("make", 1, 9)), (8, ("send", "redone", 1))])
        self.assertEqual([lacking(room, 1, at) for at in (5, 6, 7, 8)], [(3, 1, 1), (3, 1, 1), (9, 1, 1), (8, 1, 1)])

    def test_those_that_turned_back_are_not_under_it(self):
        room = written_room([(5, WORKS), (6, ("send", "redone", 1)), (7, ("back", "redone"))])
        self.assertEqual(lacking(room, 1, 7), (3, 1, 1))

    def test_those_under_another_call_do_not_count(self):
        room = written_room([(5, WORKS), (5, ("call", "mart", "car")), (6, ("send", "redone", 2))])
        self.assertEqual((lacking(room, 1, 6), lacking(room, 2, 6)), ((3, 1, 1), (0, 0, 0)))


class NearestTest(unittest.TestCase):

    def test_as_many_as_lack_by_minutes_and_name(self):
        # To quay: mill two minutes, hill three, and two more from home.
        room = written_room([(5, ("call", "quay", "car"))])
        self.assertEqual(nearest(room, 1, 5), [("redone", 4)])
        room = written_room([(5, ("call", "quay", "house"))])
        self.assertEqual(nearest(room, 1, 5), [("redone", 4), ("redtwo", 4), ("tall", 5)])
        room = written_room([(5, WORKS)])
        self.assertEqual(nearest(room, 1, 5), [("redone", 4), ("redtwo", 4), ("redsix", 5), ("tall", 5), ("wet", 4)])
        self.assertEqual(short(room, 1, 5), (0, 0, 0))

    def test_equally_near_ones_by_name_whatever_their_order(self):
        names = ("cc", "aa", "dd", "bb")
        engines = tuple([(name, "pump", "mill", 1) for name in names])
        room = written_room([(5, WORKS)], None, engines)
        self.assertEqual(nearest(room, 1, 5), [("aa", 4), ("bb", 4), ("cc", 4)])

    def test_one_that_turns_back_is_two_minutes_sooner(self):
        deeds = [(4, ("call", "hill", "car")), (4, ("send", "redtwo", 1)), (4, ("there", "redtwo"))]
        room = written_room(deeds + [(5, ("call", "quay", "car")), (6, ("back", "redtwo"))])
        # There it isn't free; turning back from hill it has three minutes, redone from home two and two.
        self.assertEqual(nearest(room, 4, 5), [("redone", 4)])
        self.assertEqual(nearest(room, 4, 6), [("redtwo", 3)])
        room.write(7, 7, ("home", "redtwo"))
        self.assertEqual(nearest(room, 4, 7), [("redone", 4)])

    def test_from_where_it_turned_back(self):
        room = written_room([(4, WORKS), (5, ("send", "redone", 1)), (6, ("back", "redone"))])
        self.assertEqual(nearest(room, 1, 6)[0], ("redone", 2))
        room = written_room([(4, WORKS), (5, ("send", "redone", 1)), (6, ("there", "redone")), (7, ("back", "redone"))])
        self.assertEqual(nearest(room, 1, 7)[0], ("redone", 0))

    def test_from_where_it_stands(self):
        room = written_room([(4, ("call", "mart", "car")), (5, ("stand", "redtwo", "mart"))])
        self.assertEqual((nearest(room, 1, 4), nearest(room, 1, 5)), ([("redsix", 3)], [("redtwo", 2)]))
        room = written_room([(4, ("call", "mart", "car")), (5, ("lend", "redtwo", "mart"))])
        self.assertEqual(nearest(room, 1, 5), [("redtwo", 2)])

    def test_those_that_are_not_free(self):
        deeds = [(4, WORKS), (4, ("call", "hill", "car")), (5, ("off", "redone")), (5, ("send", "redtwo", 2))]
        room = written_room(deeds + [(5, ("send", "tall", 1)), (5, ("there", "tall"))])
        self.assertEqual(nearest(room, 1, 5), [("redsix", 5), ("wet", 4)])
        self.assertEqual(short(room, 1, 5), (2, 0, 0))

    def test_a_place_that_cant_be_come_to(self):
        room = written_room([(4, ("call", "far", "works")), (5, ("call", "out", "works")), (6, ("shut", 4))])
        self.assertEqual((nearest(room, 1, 5), short(room, 1, 5), lacking(room, 1, 5)), ([], (3, 1, 1), (3, 1, 1)))
        self.assertEqual(nearest(room, 2, 5)[0], ("redsix", 12))
        self.assertEqual((nearest(room, 2, 6), short(room, 2, 6)), ([], (3, 1, 1)))

    def test_fewer_free_ones_than_lack(self):
        room = written_room([(4, WORKS), (5, ("make", 1, 20))])
        self.assertEqual([name for name, minutes in nearest(room, 1, 5)], ["redone", "redtwo", "redsix", "tall", "wet"])
        self.assertEqual(short(room, 1, 5), (17, 0, 0))
        room = written_room([(4, WORKS)], None, ())
        self.assertEqual((nearest(room, 1, 4), short(room, 1, 4)), ([], (3, 1, 1)))

    def test_in_slow_hours(self):
        room = written_room([(419, ("call", "quay", "works"))])
        self.assertEqual(nearest(room, 1, 419), [("redone", 4), ("redtwo", 4), ("redsix", 5), ("tall", 5), ("wet", 4)])
        self.assertEqual(nearest(room, 1, 420), [("redone", 5), ("redtwo", 5), ("redsix", 9), ("tall", 9), ("wet", 5)])

    def test_nothing_lacks(self):
        room = written_room([(4, ("call", "quay", "car")), (5, ("send", "redone", 1))])
        self.assertEqual((nearest(room, 1, 5), short(room, 1, 5)), ([], (0, 0, 0)))

    def test_by_names_and_told_lists_are_the_askers_own(self):
        room = written_room([(5, WORKS)])
        told = nearest(at=5, call=1, room=room)
        told.clear()
        self.assertEqual(len(nearest(room, 1, 5)), 5)
        self.assertEqual(short(at=5, call=1, room=room), (0, 0, 0))
        self.assertEqual(lacking(at=5, call=1, room=room), (3, 1, 1))
        self.assertEqual(len(room), 1)

    def test_against_all_free_ones(self):
        asked = 0
        for seed in range(30):
            room = chance_room(seed)
            for at in (50, 200, 430, 500, 700):
                for number in room.calls(at):
                    asked += 1
                    self.check_call(room, number, at)
        self.assertGreater(asked, 100)

    def check_call(self, room, number, at):
        place, kind, minute, pumps, is_open, under = room.call(number, at)
        due = [max(DUE[kind][0] + (room.ground.risk(place) == 1), pumps), DUE[kind][1], DUE[kind][2]]
        for name, sort, station, seats in room.engines:
            if name in under:
                due[SORTS.index(sort)] -= 1
        lacks = tuple([max(0, many) for many in due])
        self.assertEqual(lacking(room, number, at), lacks)
        told, left = [], list(lacks)
        for sort, minutes, name in coming(room, number, at):
            if left[sort] > 0:
                left[sort] -= 1
                told.append((name, minutes))
        self.assertEqual(nearest(room, number, at), told)
        self.assertEqual(short(room, number, at), tuple(left))
        self.assertIs(look_nearest(room, number, at, told), None)


class NoCallTest(unittest.TestCase):

    def check_refused(self, room, thing, at):
        for asked in (lacking, nearest, short):
            with self.assertRaises(NoCall) as caught:
                asked(room, thing, at)
            self.assertIs(caught.exception.number, thing)
        for paper in (None, [], [None], [("redone", 4)]):
            with self.assertRaises(NoCall) as caught:
                look_nearest(room, thing, at, paper)
            self.assertIs(caught.exception.number, thing)

    def test_calls_that_are_not_open_then(self):
        room = written_room([(5, WORKS), (6, ("nothing",)), (9, ("stop", 1))])
        for number, at in ((1, 4), (1, 9), (1, 50), (2, 7), (3, 9), (4, 9), (200, 9), (0, 9), (-1, 9)):
            self.check_refused(room, number, at)
        self.assertEqual(lacking(room, 1, 8), (3, 1, 1))

    def test_any_things(self):
        room = written_room([(5, WORKS), (5, WORKS)])
        for thing in [thing for thing in ANY_THINGS if thing not in (1, 2)] + [True, "1", [1], (1,)]:
            with self.subTest(thing=str(thing)[:40]):
                self.check_refused(room, thing, 5)


class LookTest(unittest.TestCase):

    def setUp(self):
        # Three pumps, a ladder and a tanker lack; four pumps can come, redsix as the farthest, two are equally near.
        engines = town_engines() + (("tallest", "ladder", "mart", 1), ("pump", "pump", "mart", 1))
        engines += (("resting", "pump", "mill", 1),)
        self.room = written_room([(4, ("off", "resting")), (5, WORKS)], None, engines)
        self.told = [("redone", 4), ("redtwo", 4), ("redsix", 5), ("tall", 5), ("wet", 4)]

    def looked(self, thing):
        return looked(self.room, 2, 5, thing)

    def test_what_nearest_tells_is_let_by(self):
        self.assertEqual(nearest(self.room, 2, 5), self.told)
        self.assertIs(self.looked(self.told), None)
        self.assertIs(look_nearest(thing=self.told, at=5, call=2, room=self.room), None)

    def test_paper(self):
        for thing in ANY_THINGS:
            if thing != []:
                with self.subTest(thing=str(thing)[:40]):
                    self.assertEqual(self.looked(thing), "paper")
        self.assertEqual(self.looked(tuple(self.told)), "paper")
        for row in (["redone", 4], ("redone",), ("redone", 4, 4), (), None, "redone", (("redone", 4),)):
            for at in range(5):
                with self.subTest(row=row, at=at):
                    self.assertEqual(self.looked(self.told[:at] + [row] + self.told[at + 1:]), "paper")

    def test_paper_goes_ahead_of_an_engine(self):
        self.assertEqual(self.looked([("nobody", 4), ("redtwo", 4), None]), "paper")

    def test_engine(self):
        for at in range(5):
            name, minutes = self.told[at]
            wrong = [(thing, minutes) for thing in ANY_THINGS + ("nobody", "Redone", "resting", [name], (name,))]
            wrong += [(name, thing) for thing in ANY_THINGS + (3, 4, 5, 6, "4", [4], (4,), -4)
                      if type(thing) is not int or thing != minutes]
            for row in wrong:
                with self.subTest(at=at, row=str(row)[:40]):
                    self.assertEqual(self.looked(self.told[:at] + [row] + self.told[at + 1:]), "engine")

    def test_a_truth_for_minutes(self):
        room = written_room([(4, WORKS), (5, ("send", "redone", 1)), (6, ("there", "redone")), (7, ("back", "redone"))])
        told = nearest(room, 1, 7)
        self.assertEqual(told[0], ("redone", 0))
        self.assertEqual(looked(room, 1, 7, [("redone", False)] + told[1:]), "engine")
        room = written_room([(4, ("call", "hill", "car")), (4, ("call", "mart", "car")), (5, ("send", "redsix", 1)),
                             (6, ("back", "redsix"))])
        self.assertEqual(nearest(room, 2, 6), [("redsix", 1)])
        self.assertEqual(looked(room, 2, 6, [("redsix", True)]), "engine")

    def test_one_that_comes_twice(self):
        self.assertEqual(self.looked(self.told[:1] + self.told[:2] + self.told[3:]), "engine")
        self.assertEqual(self.looked(self.told + self.told[-1:]), "engine")

    def test_one_that_isnt_free_or_cant_come(self):
        room = written_room([(4, ("call", "far", "car")), (5, ("call", "quay", "car")), (6, ("send", "redtwo", 1))])
        self.assertEqual(looked(room, 1, 6, [("redone", 2)]), "engine")
        self.assertEqual(looked(room, 1, 6, []), None)
        self.assertEqual(looked(room, 2, 6, [("redtwo", 4)]), "engine")

    def test_order(self):
        for rows in itertools.permutations(self.told):
            if list(rows) != self.told:
                self.assertEqual(self.looked(list(rows)), "order")

    def test_order_goes_ahead_of_many(self):
        self.assertEqual(self.looked([("redtwo", 4), ("redone", 4)]), "order")
        self.assertEqual(self.looked([("wet", 4), ("tall", 5)]), "order")
        self.assertEqual(self.looked([("redsix", 5), ("redone", 4)]), "order")

    def test_many(self):
        for at in range(5):
            self.assertEqual(self.looked(self.told[:at] + self.told[at + 1:]), "many")
        self.assertEqual(self.looked([]), "many")
        self.assertEqual(self.looked(self.told[:3] + [("pump", 6)] + self.told[3:]), "many")
        self.assertEqual(self.looked(self.told[:4] + [("tallest", 6)] + self.told[4:]), "many")

    def test_more_than_lack_where_nothing_lacks(self):
        room = written_room([(4, ("call", "quay", "car")), (5, ("send", "redone", 1))])
        self.assertEqual(looked(room, 1, 5, [("redtwo", 4)]), "many")
        self.assertEqual(looked(room, 1, 5, [("tall", 5)]), "many")
        self.assertEqual(looked(room, 1, 5, []), None)

    def test_fewer_than_lack_where_no_more_can_come(self):
        room = written_room([(4, WORKS), (4, ("make", 1, 9))])
        told = nearest(room, 1, 4)
        self.assertEqual(len(told), 5)
        self.assertIs(looked(room, 1, 4, told), None)
        self.assertEqual(looked(room, 1, 4, told[1:]), "many")

    def test_nearer(self):
        self.assertEqual(self.looked([("redone", 4), ("redsix", 5), ("pump", 6), ("tall", 5), ("wet", 4)]), "nearer")
        self.assertEqual(self.looked([("redone", 4), ("redtwo", 4), ("pump", 6), ("tall", 5), ("wet", 4)]), "nearer")
        self.assertEqual(self.looked(self.told[:3] + [("tallest", 6), ("wet", 4)]), "nearer")

    def test_an_equally_near_one_of_a_lesser_name_is_ahead(self):
        room = written_room([(5, ("call", "quay", "car"))])
        self.assertEqual(looked(room, 1, 5, [("redtwo", 4)]), "nearer")
        self.assertEqual(looked(room, 1, 5, [("redone", 4)]), None)

    def test_many_goes_ahead_of_nearer(self):
        self.assertEqual(self.looked([("redsix", 5), ("pump", 6), ("tall", 5), ("wet", 4)]), "many")

    def test_the_first_fault_of_each_list_of_a_small_room(self):
        ground = Ground((("a", 2), ("b", 2)), (("a", "b", 1, 0),), ("a", "b"))
        engines = (("x", "pump", "a", 1), ("y", "pump", "b", 1), ("z", "pump", "b", 1), ("l", "ladder", "b", 1))
        room = written_room([(5, ("call", "a", "house"))], ground, engines)
        rows = [(name, minutes) for name in ("x", "y", "z", "l", "o") for minutes in (2, 3)]
        for many in range(5):
            for paper in itertools.product(rows, repeat=many):
                self.assertEqual(looked(room, 1, 5, list(paper)), self.first_fault(paper))

    def first_fault(self, paper):
        keys = {("x", 2): (0, 2, "x"), ("y", 3): (0, 3, "y"), ("z", 3): (0, 3, "z"), ("l", 3): (1, 3, "l")}
        if any([row not in keys for row in paper]) or len(set(paper)) < len(paper):
            return "engine"
        order = [keys[row] for row in paper]
        if order != sorted(order):
            return "order"
        if [key[0] for key in order] != [0, 0, 1]:
            return "many"
        return None if paper == (("x", 2), ("y", 3), ("l", 3)) else "nearer"


class HandedInTest(unittest.TestCase):

    def test_asking_changes_nothing(self):
        room = written_room([(5, WORKS), (6, ("send", "redone", 1))])
        for asked in (lacking, nearest, short):
            asked(room, 1, 6)
        self.assertTrue(room == written_room([(5, WORKS), (6, ("send", "redone", 1))]))
        self.assertTrue(room.ground == town())


if __name__ == "__main__":
    unittest.main()
