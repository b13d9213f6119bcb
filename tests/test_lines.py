"""Points 24 and 25: pressures join by join, the first failing join, and the greatest share that holds."""

import random
import unittest

from whistleboard.errors import NoFlow
from whistleboard.lines import Line

HYDRANT = ("hydrant", 60, 1000)
NOZZLE = ("nozzle", 200, 10)


def walks(parts, ahead=()):
    """Each join with those ahead of it on its way and itself, in the order of walking."""
    told = []
    for part in parts:
        if part[0] == "fork":
            return told + walks(part[1], ahead) + walks(part[2], ahead)
        ahead = ahead + ((part, id(parts), len(told)),)
        told.append(ahead)
    return told


def due(source, parts, share):
    """The pressures, or the failing join and why: reckoned for each join alone, along its whole way."""
    ways = walks(parts)
    takes = {"nozzle": lambda part: part[1] * share // 100, "leak": lambda part: part[1]}
    flows = {}
    for way in ways:
        part = way[-1][0]
        if part[0] in takes:
            for join in way:
                flows[join] = flows.get(join, 0) + takes[part[0]](part)
    taken = sum([takes[way[-1][0][0]](way[-1][0]) for way in ways if way[-1][0][0] in takes])
    if source[0] == "hydrant" and taken > source[2]:
        return 0, "flow"
    told = []
    for number, way in enumerate(ways):
        pressure = source[1] if source[0] == "hydrant" else -source[1]
        for join in way:
            part, flow = join[0], flows[join]
            if part[0] == "hose":
                pressure = pressure - (part[1] * flow * flow) // 40000 - part[2]
            elif part[0] == "pump":
                pressure = min(pressure + part[1], 120)
        part, flow = way[-1][0], flows[way[-1]]
        if part[0] == "hose" and pressure < -70:
            return number + 1, "dry"
        if part[0] == "pump" and flow > part[2]:
            return number + 1, "flow"
        if part[0] == "nozzle" and pressure < part[2]:
            return number + 1, "weak"
        told.append(pressure)
    return told


def told_of(line, share=100):
    """The pressures, or the failing join and why."""
    try:
        return line.pressures(share)
    except NoFlow as refusal:
        return refusal.join, refusal.why


def chance_parts(chance, deep):
    """Some parts with at most so many forks within one another; each is a tuple of its own."""
    parts = []
    for again in range(chance.randint(0, 4)):
        word = chance.choice(("hose", "hose", "pump", "leak"))
        if word == "hose":
            parts.append(("hose", chance.randint(1, 12), chance.choice((-60, -20, 0, 5, 20, 60))))
        elif word == "pump":
            parts.append(("pump", chance.randint(0, 120), chance.choice((300, 1500, 5000))))
        else:
            parts.append(("leak", chance.choice((0, 10, 200))))
    if deep > 0 and chance.random() < 0.6:
        parts.append(("fork", chance_parts(chance, deep - 1), chance_parts(chance, deep - 1)))
    else:
        parts.append(("nozzle", chance.randint(0, 600), chance.choice((0, 0, 10, 40))))
    return tuple(parts)


def chance_line(seed):
    """A source and parts, the same ones for the same seed."""
    chance = random.Random(seed)
    hydrant = ("hydrant", chance.randint(0, 150), chance.choice((500, 2000, 5000)))
    source = hydrant if chance.random() < 0.7 else ("pond", chance.randint(0, 8))
    return source, chance_parts(chance, 3)


class PressuresTest(unittest.TestCase):

    def check(self, source, parts, pressures, share=100):
        told = Line(source, parts).pressures(share)
        self.assertEqual(told, pressures)
        self.assertIs(type(told), list)

    def test_a_nozzle_at_the_source(self):
        self.check(HYDRANT, (NOZZLE,), [60])
        self.check(("pond", 0), (("nozzle", 2000, 0),), [0])

    def test_along_a_hose(self):
        # With 200 litres each length takes 1.
        self.check(HYDRANT, (("hose", 5, 0), NOZZLE), [55, 55])
        self.check(HYDRANT, (("hose", 20, 0), NOZZLE), [40, 40])

    def test_the_friction_is_cut_to_whole_numbers(self):
        self.check(HYDRANT, (("hose", 1, 0), ("nozzle", 199, 0)), [60, 60])
        self.check(HYDRANT, (("hose", 3, 0), ("nozzle", 199, 0)), [58, 58])
        self.check(HYDRANT, (("hose", 1, 0), ("nozzle", 283, 0)), [58, 58])
        self.check(HYDRANT, (("hose", 1, 0), ("nozzle", 282, 0)), [59, 59])
        # 7 * 659 * 659 is 3,039,967: 33 less than 76 times 40,000.
        self.check(("hydrant", 100, 5000), (("hose", 7, 0), ("nozzle", 659, 0)), [25, 25])

    def test_uphill_and_down(self):
        self.check(HYDRANT, (("hose", 1, 20), NOZZLE), [39, 39])
        self.check(HYDRANT, (("hose", 1, -20), NOZZLE), [79, 79])
        self.check(HYDRANT, (("hose", 1, 30), ("hose", 1, -60), NOZZLE), [29, 88, 88])

    def test_out_of_a_pond(self):
        self.check(("pond", 8), (("hose", 1, 2), ("pump", 40, 500), NOZZLE), [-11, 29, 29])
        self.check(("pond", 3), (("pump", 40, 500), NOZZLE), [37, 37])

    def test_a_pump_gives_at_most_120(self):
        self.check(HYDRANT, (("pump", 59, 500), NOZZLE), [119, 119])
        self.check(HYDRANT, (("pump", 60, 500), NOZZLE), [120, 120])
        self.check(HYDRANT, (("pump", 61, 500), NOZZLE), [120, 120])
        self.check(("hydrant", 150, 500), (("pump", 0, 500), NOZZLE), [120, 120])
        self.check(("hydrant", 150, 500), (NOZZLE,), [150])
        self.check(HYDRANT, (("pump", 120, 500), ("hose", 1, -60), NOZZLE), [120, 179, 179])

    def test_a_leak_leaves_the_pressure_and_takes_water_ahead_of_it(self):
        self.check(HYDRANT, (("leak", 200), ("hose", 1, 0), NOZZLE), [60, 59, 59])
        self.check(HYDRANT, (("hose", 1, 0), ("leak", 200), NOZZLE), [56, 56, 56])
        self.check(HYDRANT, (("hose", 1, 0), ("leak", 200), ("hose", 1, 0), NOZZLE), [56, 56, 55, 55])

    def test_a_fork_gives_what_comes_to_both(self):
        fork = ("fork", (("hose", 4, 0), NOZZLE), (("hose", 1, 10), ("nozzle", 400, 0)))
        self.check(HYDRANT, (("hose", 2, 0), fork), [42, 38, 38, 28, 28])

    def test_forks_in_one_another(self):
        inner = ("fork", (NOZZLE,), (("leak", 100), ("nozzle", 100, 0)))
        fork = ("fork", (("hose", 1, 0), inner), (("hose", 1, 0), ("fork", (NOZZLE,), (NOZZLE,))))
        # 400 litres go through each hose of the fork, 800 through the one ahead of it.
        self.check(("hydrant", 100, 1000), (("hose", 1, 0), fork), [84, 80, 80, 80, 80, 80, 80, 80])

    def test_shares(self):
        parts = (("hose", 10, 0), ("leak", 100), ("nozzle", 300, 0))
        self.check(HYDRANT, parts, [20, 20, 20])
        # 10 * 250 * 250 // 40000 is 15.
        self.check(HYDRANT, parts, [45, 45, 45], 50)
        self.check(HYDRANT, parts, [58, 58, 58], 0)
        self.assertEqual(Line(HYDRANT, parts).pressures(share=0), [58, 58, 58])

    def test_a_nozzle_takes_whole_litres(self):
        # A third of 200 is 66: 20 * 66 * 66 // 40000 is 2.
        self.check(HYDRANT, (("hose", 20, 0), NOZZLE), [58, 58], 33)
        self.check(HYDRANT, (("hose", 20, 0), ("nozzle", 1, 0)), [60, 60], 99)

    def test_told_lists_are_the_askers_own(self):
        line, other = Line(HYDRANT, (NOZZLE,)), Line(HYDRANT, (NOZZLE,))
        line.pressures().append(7)
        self.assertEqual((line.pressures(), other.pressures()), ([60], [60]))

    def test_against_each_way(self):
        whys = []
        for seed in range(400):
            source, parts = chance_line(seed)
            line = Line(source, parts)
            for share in (0, 1, 33, 50, 99, 100):
                told = told_of(line, share)
                self.assertEqual(told, due(source, parts, share), (source, parts, share))
                whys.append(told[1] if isinstance(told, tuple) else "holds")
        for why in ("holds", "flow", "weak", "dry"):
            self.assertGreater(whys.count(why), 20)


class FailingTest(unittest.TestCase):

    def check(self, source, parts, join, why, share=100):
        with self.assertRaises(NoFlow) as caught:
            Line(source, parts).pressures(share)
        self.assertEqual((caught.exception.join, caught.exception.why), (join, why))

    def test_the_source_just_at_its_most_and_beyond(self):
        parts = (("leak", 50), ("fork", (("nozzle", 100, 0),), (("nozzle", 50, 0),)))
        self.assertEqual(Line(("hydrant", 60, 200), parts).pressures(), [60, 60, 60])
        self.check(("hydrant", 60, 199), parts, 0, "flow")
        self.assertEqual(Line(("hydrant", 60, 199), parts).pressures(99), [60, 60, 60])

    def test_a_pond_has_no_most(self):
        parts = (("fork", (("leak", 1000), ("nozzle", 2000, 0)), (("leak", 1000), ("nozzle", 2000, 0))),)
        self.assertEqual(Line(("pond", 0), parts).pressures(), [0, 0, 0, 0])
        self.check(("hydrant", 100, 5000), parts, 0, "flow")

    def test_a_pump_just_at_its_most_and_beyond(self):
        self.assertEqual(Line(HYDRANT, (("pump", 5, 200), NOZZLE)).pressures(), [65, 65])
        self.check(HYDRANT, (("pump", 5, 199), NOZZLE), 1, "flow")
        self.check(HYDRANT, (("hose", 1, 0), ("pump", 5, 249), ("leak", 50), NOZZLE), 2, "flow")
        self.assertEqual(Line(HYDRANT, (("leak", 50), ("pump", 5, 200), NOZZLE)).pressures(), [60, 65, 65])

    def test_a_hose_just_at_its_least_and_beyond(self):
        parts = (("hose", 1, 60), ("hose", 1, 1), ("nozzle", 0, 0))
        self.check(("pond", 8), parts, 3, "weak")
        self.check(("pond", 8), (("hose", 1, 60), ("hose", 1, 2), ("nozzle", 0, 0)), 3, "weak")
        self.check(("pond", 8), (("hose", 1, 60), ("hose", 1, 3), ("nozzle", 0, 0)), 2, "dry")
        line = Line(("pond", 8), (("hose", 1, 60), ("hose", 1, 2), ("pump", 70, 1), ("nozzle", 0, 0)))
        self.assertEqual(line.pressures(), [-68, -70, 0, 0])
        self.check(("pond", 8), (("hose", 1, 60), ("hose", 1, 3), ("pump", 120, 1), ("nozzle", 0, 0)), 2, "dry")

    def test_a_nozzle_just_at_its_least_and_beyond(self):
        self.assertEqual(Line(HYDRANT, (("nozzle", 200, 60),)).pressures(), [60])
        self.check(HYDRANT, (("nozzle", 200, 61),), 1, "weak")
        self.check(("pond", 1), (("nozzle", 0, 0),), 1, "weak")

    def test_the_first_one_in_the_order_of_walking(self):
        weak, small = ("nozzle", 200, 100), ("pump", 0, 10)
        self.check(HYDRANT, (("fork", (NOZZLE,), (weak,)),), 2, "weak")
        self.check(HYDRANT, (("fork", (weak,), (small, weak)),), 1, "weak")
        self.check(HYDRANT, (("fork", (small, weak), (weak,)),), 1, "flow")
        self.check(HYDRANT, (("fork", (NOZZLE,), (small, weak)),), 2, "flow")
        self.check(HYDRANT, (("hose", 20, 60), ("hose", 20, 60), small, weak), 2, "dry")
        self.check(HYDRANT, (small, ("hose", 20, 60), ("hose", 20, 60), ("hose", 20, 60), weak), 1, "flow")
        inner = ("fork", (NOZZLE,), (NOZZLE,))
        self.check(HYDRANT, (("hose", 1, 0), ("fork", (inner,), (("leak", 0), weak))), 5, "weak")

    def test_the_sources_goes_ahead_of_all(self):
        self.check(("hydrant", 0, 1), (("pump", 0, 1), ("hose", 20, 60), ("hose", 20, 60), ("nozzle", 200, 100)), 0, "flow")

    def test_what_fails_changes_nothing(self):
        line = Line(HYDRANT, (("nozzle", 200, 61),))
        for again in range(2):
            self.assertEqual(told_of(line), (1, "weak"))
        self.assertTrue(line == Line(HYDRANT, (("nozzle", 200, 61),)))


class GreatestTest(unittest.TestCase):

    def test_the_whole_share_holds(self):
        self.assertEqual(Line(HYDRANT, (NOZZLE,)).greatest(), 100)

    def test_a_share_between(self):
        self.assertEqual(Line(("hydrant", 60, 100), (NOZZLE,)).greatest(), 50)
        self.assertEqual(Line(("hydrant", 60, 101), (NOZZLE,)).greatest(), 50)
        self.assertEqual(Line(("hydrant", 60, 99), (NOZZLE,)).greatest(), 49)
        self.assertEqual(Line(("hydrant", 60, 1), (("nozzle", 2000, 0),)).greatest(), 0)

    def test_none_where_even_nought_fails(self):
        self.assertIs(Line(HYDRANT, (("nozzle", 200, 61),)).greatest(), None)
        self.assertIs(Line(("hydrant", 60, 9), (("leak", 10), NOZZLE)).greatest(), None)
        self.assertEqual(Line(("hydrant", 60, 10), (("leak", 10), NOZZLE)).greatest(), 0)
        self.assertIs(Line(("pond", 1), (NOZZLE,)).greatest(), None)

    def test_against_each_share(self):
        found = []
        for seed in range(150):
            source, parts = chance_line(seed)
            holding = [share for share in range(101) if isinstance(due(source, parts, share), list)]
            told = Line(source, parts).greatest()
            self.assertEqual(told, max(holding) if holding else None)
            # Each lesser share holds as well.
            self.assertEqual(holding, [] if told is None else list(range(told + 1)))
            found.append("none" if told is None else "whole" if told == 100 else "between")
        for sort in ("none", "whole", "between"):
            self.assertGreater(found.count(sort), 5)

    def test_without_a_join_it_is_reckoned_anew(self):
        line = Line(HYDRANT, (("hose", 20, 0), ("leak", 200), NOZZLE))
        # With 318 litres 20 * 318 * 318 // 40000 is 50, with 320 it is 51: then less than 10 is left.
        self.assertEqual((line.greatest(), told_of(line)), (59, (3, "weak")))
        self.assertEqual(line.without(2).pressures(), [40, 40])
        self.assertEqual(line.without(1).pressures(), [60, 60])
        self.assertEqual(told_of(line), (3, "weak"))


if __name__ == "__main__":
    unittest.main()
