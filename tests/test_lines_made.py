"""Points 23 and 25: what is a line and what is none, its joins, and lines without one of them."""

import copy
import unittest

from tests.samples import ANY_THINGS, put_otherwise
from whistleboard.errors import NoJoin, NoLine
from whistleboard.lines import Line

HYDRANT = ("hydrant", 60, 1000)
POND = ("pond", 3)
HOSE = ("hose", 2, 5)
PUMP = ("pump", 40, 900)
LEAK = ("leak", 30)
NOZZLE = ("nozzle", 200, 10)
FORK = ("fork", (HOSE, NOZZLE), (NOZZLE,))

# Behind each word the least and the greatest of each number.
SOURCES = {"hydrant": ((0, 150), (1, 5000)), "pond": ((0, 8),)}
JOINS = {
    "hose": ((1, 20), (-60, 60)), "pump": ((0, 120), (1, 5000)), "leak": ((0, 1000),),
    "nozzle": ((0, 2000), (0, 100)),
}
WORDS = ("hydrant", "pond", "hose", "pump", "leak", "nozzle", "fork", "Hose", "hose ", "")


def nested(deep, inner=(NOZZLE,)):
    """Parts with so many forks within one another."""
    parts = inner
    for again in range(deep):
        parts = (HOSE, ("fork", (NOZZLE,), parts)) if again % 2 else (("fork", parts, (NOZZLE,)),)
    return parts


def wrong_ones(thing, bounds):
    """The thing with each of its numbers put otherwise by any thing, and with its word, its size or its kind so."""
    wrong = [list(thing), thing[0], thing[:-1], thing + (1,), (thing,), thing + thing]
    for at, (least, most) in enumerate(bounds):
        for other in ANY_THINGS + (least - 1, most + 1, str(least), [least], (least,), -10 ** 59):
            if type(other) is not int or not least <= other <= most:
                wrong.append(put_otherwise(thing, at + 1, other))
    for word in ANY_THINGS + WORDS + ([thing[0]], (thing[0],)):
        if word != thing[0]:
            wrong.append(put_otherwise(thing, 0, word))
    return wrong


class LineCase(unittest.TestCase):

    def check_refused(self, source, parts, at):
        kept = copy.deepcopy((source, parts))
        with self.assertRaises(NoLine) as caught:
            Line(source, parts)
        self.assertEqual(caught.exception.at, at)
        self.assertEqual((source, parts), kept)


class SourceTest(LineCase):

    def test_the_bounds_belong_to_it(self):
        for pressure in (0, 1, 149, 150):
            for most in (1, 2, 4999, 5000):
                Line(("hydrant", pressure, most), (NOZZLE,))
        for depth in range(9):
            Line(("pond", depth), (NOZZLE,))

    def test_each_thing_put_otherwise(self):
        for source in (HYDRANT, POND):
            for wrong in wrong_ones(source, SOURCES[source[0]]):
                with self.subTest(wrong=str(wrong)[:60]):
                    self.check_refused(wrong, (NOZZLE,), 0)

    def test_any_thing(self):
        for thing in ANY_THINGS + (HOSE, NOZZLE, FORK):
            with self.subTest(thing=str(thing)[:40]):
                self.check_refused(thing, (NOZZLE,), 0)

    def test_it_goes_ahead_of_the_parts(self):
        for parts in (None, (), (HOSE,), [NOZZLE], (NOZZLE,) * 9):
            self.check_refused(("pond", 9), parts, 0)


class PartsTest(LineCase):

    def test_the_bounds_belong_to_it(self):
        for join in (HOSE, PUMP, LEAK, NOZZLE):
            for at, (least, most) in enumerate(JOINS[join[0]]):
                for number in (least, least + 1, most - 1, most):
                    part = put_otherwise(join, at + 1, number)
                    Line(POND, (part,) if join == NOZZLE else (part, NOZZLE))

    def test_each_thing_put_otherwise(self):
        for join in (HOSE, PUMP, LEAK):
            for wrong in wrong_ones(join, JOINS[join[0]]):
                # A pump made out of a hose by its word is as told.
                if wrong != ("pump", 2, 5):
                    with self.subTest(wrong=str(wrong)[:60]):
                        self.check_refused(HYDRANT, (wrong, NOZZLE), 2)
                        self.check_refused(HYDRANT, (HOSE, wrong, PUMP, NOZZLE), 3)
        for wrong in wrong_ones(NOZZLE, JOINS["nozzle"]):
            with self.subTest(wrong=str(wrong)[:60]):
                self.check_refused(HYDRANT, (wrong,), 2)
                self.check_refused(HYDRANT, (HOSE, LEAK, wrong), 4)

    def test_any_thing_for_the_parts(self):
        for thing in ANY_THINGS:
            if not isinstance(thing, tuple) or thing == ():
                with self.subTest(thing=str(thing)[:40]):
                    self.check_refused(POND, thing, 1)
        for thing in ([NOZZLE], "nozzle"):
            self.check_refused(POND, thing, 1)
        self.check_refused(POND, NOZZLE, 2)

    def test_one_to_eight_and_one_more(self):
        for many in range(8):
            self.assertEqual(len(Line(POND, (HOSE,) * many + (NOZZLE,))), many + 1)
        for many in (8, 9, 100):
            self.check_refused(POND, (HOSE,) * many + (NOZZLE,), 1)
            self.check_refused(POND, (None,) * many + (NOZZLE,), 1)
        self.check_refused(POND, (), 1)

    def test_a_last_part_ahead(self):
        for last in (NOZZLE, FORK):
            self.check_refused(POND, (last, NOZZLE), 2)
            self.check_refused(POND, (HOSE, last, HOSE, NOZZLE), 3)
            self.check_refused(POND, (HOSE, last, HOSE), 3)

    def test_none_last(self):
        for part in (HOSE, PUMP, LEAK):
            self.check_refused(POND, (part,), 2)
            self.check_refused(POND, (HOSE, PUMP, part), 4)

    def test_the_first_wrong_one(self):
        self.check_refused(POND, (HOSE, ("hose", 0, 0), None, HOSE), 3)
        self.check_refused(POND, (None, None, None), 2)
        self.check_refused(POND, (HOSE,) * 7 + (None,), 9)


class ForkTest(LineCase):

    def test_three_deep_and_four(self):
        for deep in range(4):
            Line(POND, nested(deep))
        for deep in (4, 5):
            self.check_refused(POND, nested(deep), 3 if deep % 2 == 0 else 2)
        self.check_refused(POND, (HOSE, PUMP, ("fork", nested(3), (NOZZLE,))), 4)
        self.check_refused(POND, (HOSE, PUMP, ("fork", (NOZZLE,), nested(3))), 4)
        Line(POND, (HOSE, PUMP, ("fork", nested(2), nested(2))))

    def test_anything_wrong_in_it(self):
        wrong = [(), None, [NOZZLE], NOZZLE, (HOSE,), (NOZZLE, NOZZLE), (("nozzle", 0, 101),), (HOSE,) * 8 + (NOZZLE,)]
        wrong += [(FORK, NOZZLE), (None, NOZZLE), (("fork", (NOZZLE,), ()),), (("fork", (HOSE,), (NOZZLE,)),)]
        wrong += [thing for thing in ANY_THINGS]
        for parts in wrong:
            for fork in (("fork", parts, (NOZZLE,)), ("fork", (NOZZLE,), parts)):
                with self.subTest(fork=str(fork)[:60]):
                    self.check_refused(POND, (HOSE, LEAK, fork), 4)
                    deeper = ("fork", (HOSE, fork), (NOZZLE,))
                    self.check_refused(POND, (deeper,), 2)

    def test_eight_parts_in_a_fork(self):
        parts = (HOSE,) * 7 + (NOZZLE,)
        self.assertEqual(len(Line(POND, (HOSE, ("fork", parts, parts)))), 17)
        self.check_refused(POND, (("fork", (NOZZLE,), (HOSE,) * 8 + (NOZZLE,)),), 2)

    def test_another_size_or_kind(self):
        for fork in (("fork",), ("fork", (NOZZLE,)), FORK + ((NOZZLE,),), list(FORK), ("Fork",) + FORK[1:]):
            self.check_refused(POND, (fork,), 2)
            self.check_refused(POND, (HOSE, fork), 3)


class ShownTest(LineCase):

    def test_len_and_repr(self):
        lines = ((Line(POND, (NOZZLE,)), 1), (Line(POND, (HOSE, FORK)), 4), (Line(POND, nested(3)), 5))
        for line, many in lines:
            self.assertEqual((len(line), repr(line)), (many, f"Line({many})"))

    def test_equal_and_unlike(self):
        line = Line(HYDRANT, (HOSE, PUMP, FORK))
        self.assertIs(line == Line(HYDRANT, (HOSE, PUMP, ("fork", (HOSE, NOZZLE), (NOZZLE,)))), True)
        self.assertIs(line != Line(HYDRANT, (HOSE, PUMP, FORK)), False)
        others = (
            (POND, (HOSE, PUMP, FORK)), (("hydrant", 61, 1000), (HOSE, PUMP, FORK)),
            (("hydrant", 60, 999), (HOSE, PUMP, FORK)), (HYDRANT, (PUMP, HOSE, FORK)), (HYDRANT, (HOSE, FORK)),
            (HYDRANT, (HOSE, PUMP, ("fork", (NOZZLE,), (HOSE, NOZZLE)))), (HYDRANT, (HOSE, PUMP, NOZZLE)),
            (HYDRANT, (("hose", 3, 5), PUMP, FORK)), (HYDRANT, (("hose", 2, 6), PUMP, FORK)),
        )
        for source, parts in others:
            self.assertIs(line == Line(source, parts), False)
            self.assertIs(line != Line(source, parts), True)

    def test_things_of_other_kinds(self):
        line = Line(POND, (NOZZLE,))
        for thing in ANY_THINGS + (POND, (POND, (NOZZLE,)), "Line(1)"):
            self.assertIs(line == thing, False)
            self.assertIs(thing == line, False)

    def test_by_names(self):
        self.assertTrue(Line(parts=(NOZZLE,), source=POND) == Line(POND, (NOZZLE,)))


class WithoutTest(LineCase):

    PARTS = (HOSE, PUMP, ("fork", (LEAK, NOZZLE), (("hose", 1, 1), ("fork", (NOZZLE,), (("leak", 9), NOZZLE)))))
    # The nozzles are the joins 4, 6 and 8.
    LEFT = {
        1: PARTS[1:],
        2: (HOSE, PARTS[2]),
        3: (HOSE, PUMP, ("fork", (NOZZLE,), PARTS[2][2])),
        5: (HOSE, PUMP, ("fork", (LEAK, NOZZLE), (("fork", (NOZZLE,), (("leak", 9), NOZZLE)),))),
        7: (HOSE, PUMP, ("fork", (LEAK, NOZZLE), (("hose", 1, 1), ("fork", (NOZZLE,), (NOZZLE,))))),
    }

    def test_each_join(self):
        line = Line(HYDRANT, self.PARTS)
        self.assertEqual(len(line), 8)
        for join in range(1, 9):
            with self.subTest(join=join):
                if join in self.LEFT:
                    told = line.without(join)
                    self.assertIs(type(told), Line)
                    self.assertTrue(told == Line(HYDRANT, self.LEFT[join]))
                    self.assertEqual(len(told), 7)
                else:
                    with self.assertRaises(NoJoin) as caught:
                        line.without(join)
                    self.assertEqual(caught.exception.join, join)
        self.assertTrue(line == Line(HYDRANT, self.PARTS))

    def test_any_thing(self):
        line = Line(HYDRANT, self.PARTS)
        for thing in [thing for thing in ANY_THINGS if thing not in (1, 2)] + [True, False, 0, 9, -1, 10 ** 59, "1"]:
            with self.subTest(thing=str(thing)[:40]):
                with self.assertRaises(NoJoin) as caught:
                    line.without(thing)
                self.assertIs(caught.exception.join, thing)
        with self.assertRaises(NoJoin):
            Line(POND, (NOZZLE,)).without(1)

    def test_all_of_them_one_behind_another(self):
        line = Line(HYDRANT, self.PARTS)
        for again in range(5):
            join = [at for at in range(1, len(line) + 1) if self.can_go(line, at)][0]
            line = line.without(join=join)
        self.assertEqual(len(line), 3)
        self.assertEqual([at for at in range(5) if self.can_go(line, at)], [])

    def can_go(self, line, join):
        try:
            line.without(join)
        except NoJoin:
            return False
        return True

    def test_the_outermost_parts_of_a_deep_line(self):
        line = Line(POND, nested(3))
        self.assertEqual(len(line), 5)
        left = [join for join in range(6) if self.can_go(line, join)]
        self.assertEqual(len(left), 1)
        self.assertEqual(len(line.without(left[0])), 4)


if __name__ == "__main__":
    unittest.main()
