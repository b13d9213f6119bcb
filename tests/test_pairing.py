"""Point 8: pairs, the band, and the looker at both."""

import copy
import itertools
import random
import unittest

from tests.samples import ANY_THINGS, DEEP
from whistleboard.errors import NoProof
from whistleboard.pairing import look_pairs, paired


def chance_wishes(seed, most_wishes, most_holders, most_fitting):
    """Wishes, the same ones for the same seed; some are empty, in some a holder stands twice."""
    chance = random.Random(seed)
    holders = chance.randint(1, most_holders)
    return [
        [chance.randrange(holders) for fitting in range(chance.randint(0, most_fitting))]
        for wish in range(chance.randint(0, most_wishes))
    ]


def fewest_without(wishes):
    """The least number of wishes without a holder, by trying all pairs."""
    best = len(wishes)
    for pairs in itertools.product(*[[None] + sorted(set(wish)) for wish in wishes]):
        given = [holder for holder in pairs if holder is not None]
        if len(given) == len(set(given)):
            best = min(best, pairs.count(None))
    return best


class PairedCase(unittest.TestCase):

    def check_told(self, wishes, without):
        """What is told of the wishes is right by the words of the point, and leaves so many without."""
        told = paired(wishes)
        self.assertIs(type(told), tuple)
        pairs, band = told
        self.assertIs(type(pairs), list)
        self.assertIs(type(band), list)
        self.assertEqual(len(pairs), len(wishes))
        for wish, holder in zip(wishes, pairs):
            if holder is not None:
                self.assertIs(type(holder), int)
                self.assertIn(holder, wish)
        given = [holder for holder in pairs if holder is not None]
        self.assertEqual(len(given), len(set(given)))
        self.assertEqual(pairs.count(None), without)
        self.assertEqual(band, sorted(set(band)))
        self.assertTrue(all([wish in range(len(wishes)) for wish in band]))
        fitting = set([holder for wish in band for holder in wishes[wish]])
        self.assertEqual(len(band) - len(fitting), without)
        if without == 0:
            self.assertEqual(band, [])
        self.assertIsNone(look_pairs(wishes, told))


class PairedTest(PairedCase):

    def test_no_wishes(self):
        self.assertEqual(paired([]), ([], []))

    def test_all_get_a_holder(self):
        self.check_told([[0]], 0)
        self.check_told([[0], [1]], 0)
        self.check_told([[0, 1], [0]], 0)
        self.check_told([[0, 1], [0, 2], [0]], 0)
        self.check_told([[59], [0]], 0)

    def test_others_make_room_along_a_chain(self):
        wishes = [[at, at + 1] for at in range(23)] + [[0]]
        self.check_told(wishes, 0)

    def test_some_get_a_holder(self):
        self.check_told([[0], [0]], 1)
        self.check_told([[0], [], [1]], 1)
        self.check_told([[0, 1], [1, 0], [0, 1], [2]], 1)
        self.check_told([[0, 1, 2], [0], [0], [1], [1]], 2)

    def test_none_gets_a_holder(self):
        self.check_told([[]], 1)
        self.check_told([[], [], []], 3)
        self.assertEqual(paired([[], []]), ([None, None], [0, 1]))

    def test_a_holder_twice_in_a_wish_is_one_holder(self):
        self.check_told([[3, 3]], 0)
        self.check_told([[3, 3], [3]], 1)
        self.check_told([[3, 3], [3, 3], [4, 3, 4]], 1)

    def test_the_band_leaves_out_those_who_have_enough(self):
        self.assertEqual(paired([[5], [0], [6], [0]])[1], [1, 3])

    def test_as_many_as_may_be(self):
        self.check_told([list(range(60)) for wish in range(24)], 0)
        self.check_told([[7] * 60 for wish in range(24)], 23)
        self.check_told([list(range(20)) for wish in range(24)], 4)

    def test_no_pairs_leave_fewer(self):
        for seed in range(300):
            wishes = chance_wishes(seed, 6, 6, 4)
            with self.subTest(wishes=wishes):
                self.check_told(wishes, fewest_without(wishes))

    def test_many_wishes_with_chance_holders(self):
        for seed in range(300):
            wishes = chance_wishes(seed, 24, 30, 4)
            with self.subTest(wishes=wishes):
                self.check_told(wishes, paired(wishes)[0].count(None))

    def test_by_name(self):
        self.assertEqual(paired(wishes=[[4]]), ([4], []))


class OwnListsTest(unittest.TestCase):

    def test_told_lists_are_the_askers_own(self):
        for wishes in ([], [[0]], [[0, 1], [0], [1]]):
            kept = copy.deepcopy(paired(wishes))
            pairs, band = paired(wishes)
            pairs.append(9)
            band.append(9)
            self.assertEqual(paired(wishes), kept)

    def test_what_was_handed_in_stays_as_it_was(self):
        wishes = [[2, 0, 2], [0], [0, 1], []]
        kept = copy.deepcopy(wishes)
        told = paired(wishes)
        look_pairs(wishes, told)
        self.assertEqual(wishes, kept)

    def test_what_was_told_stays_when_the_wishes_are_changed(self):
        wishes = [[0, 1], [0], [1]]
        told = paired(wishes)
        kept = copy.deepcopy(told)
        wishes[0].clear()
        wishes.clear()
        self.assertEqual(told, kept)

    def test_a_paper_stays_as_it_was(self):
        thing = ([0, None], [0, 1])
        look_pairs([[0], [0]], thing)
        with self.assertRaises(NoProof):
            look_pairs([[0]], thing)
        self.assertEqual(thing, ([0, None], [0, 1]))


class LookTest(unittest.TestCase):

    WISHES = [[0, 1], [1], [1, 2, 1]]

    def check_refused(self, where, wishes, thing):
        with self.assertRaises(NoProof) as caught:
            look_pairs(wishes, thing)
        self.assertEqual(caught.exception.where, where)

    def test_right_papers_are_let_by(self):
        papers = (
            (self.WISHES, ([0, 1, 2], [])),
            (self.WISHES, ([0, 1, 2], [0, 1, 2])),
            (self.WISHES, ([0, 1, 2], [1])),
            ([[0], [0]], ([0, None], [0, 1])),
            ([[0], [0]], ([None, 0], [0, 1])),
            ([[5], [0], [0]], ([5, 0, None], [0, 1, 2])),
            ([[5], [0], [0]], ([5, 0, None], [1, 2])),
            ([[], []], ([None, None], [0, 1])),
            ([], ([], [])),
        )
        for wishes, thing in papers:
            with self.subTest(thing=thing):
                self.assertIsNone(look_pairs(wishes, thing))

    def test_by_names(self):
        self.assertIsNone(look_pairs(thing=([4], []), wishes=[[4]]))

    def test_no_tuple_of_two_lists(self):
        good = ([0, 1, 2], [])
        wrong = (
            list(good), good + ([],), good[:1], (good,), (tuple(good[0]), []), ([0, 1, 2], ()), ([0, 1, 2], None),
            (None, []), ("", []), ([], ""), ({}, []), (0, []), ([], True), ([0, 1, 2], [], None),
        )
        for thing in wrong + tuple([thing for thing in ANY_THINGS if thing != ([], [])]):
            with self.subTest(thing=str(thing)[:40]):
                self.check_refused("paper", self.WISHES, thing)

    def test_pairs_for_other_wishes(self):
        for pairs in ([], [0], [0, 1], [0, 1, 2, None], [None] * 1500):
            with self.subTest(many=len(pairs)):
                self.check_refused("pairs", self.WISHES, (pairs, []))
        self.check_refused("pairs", [], ([None], []))

    def test_a_holder_that_does_not_fit(self):
        for pairs in ([2, 1, None], [0, 0, None], [None, None, 0], [None, 3, None], [-1, None, None], [59, 1, 2]):
            with self.subTest(pairs=pairs):
                self.check_refused("pairs", self.WISHES, (pairs, []))

    def test_any_thing_as_a_holder(self):
        for at in range(3):
            for thing in ANY_THINGS:
                if thing is not None and not (type(thing) is int and thing in self.WISHES[at]):
                    with self.subTest(at=at, thing=str(thing)[:40]):
                        pairs = [None, None, None]
                        pairs[at] = thing
                        self.check_refused("pairs", self.WISHES, (pairs, [0, 1, 2]))

    def test_truths_are_no_holders(self):
        self.check_refused("pairs", [[0], [1]], ([False, 1], []))
        self.check_refused("pairs", [[0], [1]], ([0, True], []))

    def test_a_holder_twice(self):
        self.check_refused("pairs", self.WISHES, ([1, 1, 2], []))
        self.check_refused("pairs", self.WISHES, ([0, 1, 1], []))
        self.check_refused("pairs", self.WISHES, ([1, None, 1], [0, 1]))
        self.check_refused("pairs", [[0], [0]], ([0, 0], []))

    def test_no_places_of_wishes_rising(self):
        wrong = ([3], [-1], [0, 3], [-1, 0], [0, 0], [1, 0], [0, 2, 1], [2, 2], [0, 1, 2, 3], [10 ** 59], [0, 0, 1])
        for band in wrong:
            with self.subTest(band=band):
                self.check_refused("band", self.WISHES, ([0, 1, 2], band))
        self.check_refused("band", [], ([], [0]))

    def test_any_thing_in_the_band(self):
        for thing in ANY_THINGS + (DEEP, "0", (0,)):
            if type(thing) is not int:
                with self.subTest(thing=str(thing)[:40]):
                    self.check_refused("band", self.WISHES, ([0, 1, 2], [thing]))
                    self.check_refused("band", self.WISHES, ([0, 1, 2], [0, thing]))

    def test_truths_are_no_places(self):
        self.check_refused("band", [[0], [0]], ([0, None], [False, 1]))
        self.check_refused("band", [[0], [0]], ([0, None], [0, True]))

    def test_another_count(self):
        self.check_refused("many", self.WISHES, ([0, 1, 2], [0]))
        self.check_refused("many", self.WISHES, ([0, 1, None], []))
        self.check_refused("many", self.WISHES, ([None, None, None], [0, 1, 2]))
        self.check_refused("many", [[0], [0]], ([0, None], []))
        self.check_refused("many", [[0], [0]], ([0, None], [0]))
        self.check_refused("many", [[0], [0]], ([None, None], [0, 1]))
        self.check_refused("many", [[0, 0], [0, 1]], ([0, None], [0, 1]))
        self.check_refused("many", [[], [0]], ([None, 0], []))
        self.check_refused("many", [[], [0]], ([None, None], [0]))

    def test_a_holder_twice_in_a_wish_counts_once(self):
        self.assertIsNone(look_pairs([[0, 0], [0]], ([0, None], [0, 1])))
        self.assertIsNone(look_pairs([[0, 0, 0]], ([0], [0])))

    def test_the_first_of_several_faults(self):
        self.check_refused("paper", self.WISHES, ([9], (9,)))
        self.check_refused("pairs", self.WISHES, ([9], [9]))
        self.check_refused("pairs", self.WISHES, ([None, None, True], [0, 0]))
        self.check_refused("band", self.WISHES, ([None, None, None], [2, 1]))
        self.check_refused("band", self.WISHES, ([None, None, None], [0, True]))
        self.check_refused("many", self.WISHES, ([None, None, None], []))

    def test_each_small_paper_is_let_by_just_where_it_is_right(self):
        wishes = [[0], [0, 1], [1, 1]]
        fewest = fewest_without(wishes)
        let_by = 0
        for pairs in itertools.product((None, 0, 1), repeat=3):
            for many in range(4):
                for band in itertools.product(range(3), repeat=many):
                    try:
                        look_pairs(wishes, (list(pairs), list(band)))
                    except NoProof:
                        continue
                    let_by += 1
                    self.assertEqual(pairs.count(None), fewest)
                    self.assertEqual(list(band), [0, 1, 2])
        self.assertEqual(let_by, 3)

    def test_what_is_told_is_let_by(self):
        for seed in range(200):
            wishes = chance_wishes(seed, 24, 60, 5)
            self.assertIsNone(look_pairs(wishes, paired(wishes)))

    def test_one_pair_fewer_is_not_let_by(self):
        for seed in range(100):
            wishes = chance_wishes(seed, 10, 10, 4)
            pairs, band = paired(wishes)
            for at, holder in enumerate(pairs):
                if holder is not None:
                    fewer = pairs[:at] + [None] + pairs[at + 1:]
                    self.check_refused("many", wishes, (fewer, band))


if __name__ == "__main__":
    unittest.main()
