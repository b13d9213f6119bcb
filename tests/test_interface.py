"""The interface: what stands in which file, and what it takes."""

import importlib
import inspect
import unittest

# File, function or class, and what it takes.
CALLED = (
    ("clock", "shown", "(minute)"),
    ("clock", "read_time", "(text)"),
    ("ground", "Ground", "(places, roads, stations)"),
    ("pairing", "paired", "(wishes)"),
    ("pairing", "look_pairs", "(wishes, thing)"),
    ("crews", "are_engines", "(ground, thing)"),
    ("crews", "are_hands", "(ground, thing)"),
    ("crews", "crews", "(engines, hands, day)"),
    ("calls", "attendance", "(kind, risk, asked=0)"),
    ("calls", "read_call", "(text)"),
    ("deeds", "fault", "(ground, engines, thing)"),
    ("rows", "Row", "(number, written, at, deed, right=0)"),
    ("room", "take_up", "(ground, engines, thing)"),
    ("room", "Room", "(ground, engines)"),
    ("sending", "heard", "(room, place, kind, at)"),
    ("sending", "lacking", "(room, call, at)"),
    ("sending", "nearest", "(room, call, at)"),
    ("sending", "short", "(room, call, at)"),
    ("sending", "look_nearest", "(room, call, at, thing)"),
    ("cover", "cover", "(room, at)"),
    ("cover", "uncovered", "(room, at, limit)"),
    ("cover", "moves", "(room, at, limit)"),
    ("lines", "Line", "(source, parts)"),
    ("boards", "carried", "(reserve, thing)"),
    ("boards", "Board", "(reserve=50)"),
    ("radio", "Radio", "()"),
    ("texts", "read_ground", "(text)"),
    ("texts", "read_row", "(text)"),
    ("texts", "show_book", "(rows)"),
    ("texts", "read_book", "(text)"),
    ("desk", "Desk", "(ground, engines)"),
)
# File, class, method, and what it takes.
METHODS = (
    ("ground", "Ground", "minutes", "(self, start, goal, hour=0, shut=None)"),
    ("ground", "Ground", "road", "(self, start, goal, hour=0, shut=None)"),
    ("ground", "Ground", "station_of", "(self, place, hour=0, shut=None)"),
    ("ground", "Ground", "grounds", "(self, hour=0, shut=None)"),
    ("ground", "Ground", "risk", "(self, place)"),
    ("ground", "Ground", "__eq__", "(self, other)"),
    ("ground", "Ground", "__len__", "(self)"),
    ("ground", "Ground", "__str__", "(self)"),
    ("ground", "Ground", "__repr__", "(self)"),
    ("rows", "Row", "__eq__", "(self, other)"),
    ("rows", "Row", "__str__", "(self)"),
    ("rows", "Row", "__repr__", "(self)"),
    ("room", "Room", "write", "(self, written, at, deed, right=0)"),
    ("room", "Room", "rows", "(self)"),
    ("room", "Room", "void", "(self)"),
    ("room", "Room", "engine", "(self, name, at=None)"),
    ("room", "Room", "call", "(self, number, at=None)"),
    ("room", "Room", "calls", "(self, at=None)"),
    ("room", "Room", "shut", "(self, at=None)"),
    ("room", "Room", "__eq__", "(self, other)"),
    ("room", "Room", "__len__", "(self)"),
    ("room", "Room", "__repr__", "(self)"),
    ("lines", "Line", "pressures", "(self, share=100)"),
    ("lines", "Line", "greatest", "(self)"),
    ("lines", "Line", "without", "(self, join)"),
    ("lines", "Line", "__eq__", "(self, other)"),
    ("lines", "Line", "__len__", "(self)"),
    ("lines", "Line", "__repr__", "(self)"),
    ("boards", "Board", "enter", "(self, team, minute, wearers, door='a', work='work')"),
    ("boards", "Board", "gauge", "(self, team, wearer, minute, bar)"),
    ("boards", "Board", "dies", "(self, team, wearer, minute)"),
    ("boards", "Board", "works", "(self, team, minute, work)"),
    ("boards", "Board", "hands_in", "(self, team, wearer, minute)"),
    ("boards", "Board", "loses", "(self, team, wearer, minute)"),
    ("boards", "Board", "sees", "(self, team, wearer, minute)"),
    ("boards", "Board", "content", "(self, team, wearer, minute)"),
    ("boards", "Board", "whistle", "(self, team)"),
    ("boards", "Board", "due", "(self, minute, ahead=10)"),
    ("boards", "Board", "inside", "(self)"),
    ("boards", "Board", "rows", "(self)"),
    ("boards", "Board", "__eq__", "(self, other)"),
    ("boards", "Board", "__len__", "(self)"),
    ("radio", "Radio", "hears", "(self, sender, number, text)"),
    ("radio", "Radio", "read", "(self, sender)"),
    ("radio", "Radio", "missing", "(self, sender)"),
    ("radio", "Radio", "__eq__", "(self, other)"),
    ("radio", "Radio", "__len__", "(self)"),
    ("desk", "Desk", "say", "(self, row)"),
)


def found_in(file, name):
    return vars(importlib.import_module(f"whistleboard.{file}"))[name]


class InterfaceTest(unittest.TestCase):

    def test_each_stands_in_its_file(self):
        for file, name, takes in CALLED:
            with self.subTest(file=file, name=name):
                found = found_in(file, name)
                self.assertEqual(found.__module__, f"whistleboard.{file}")
                self.assertEqual(str(inspect.signature(found)), takes)

    def test_each_method_stands_in_its_class(self):
        for file, name, method, takes in METHODS:
            with self.subTest(name=name, method=method):
                found = vars(found_in(file, name))[method]
                self.assertEqual(str(inspect.signature(found)), takes)


if __name__ == "__main__":
    unittest.main()
