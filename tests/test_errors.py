"""The refusals: each straight under its class, with its values."""

import unittest

from whistleboard import errors

# Name, the class straight above it, and the values that its objects have.
REFUSALS = (
    ("BadTime", ValueError, ()),
    ("NoGround", ValueError, ("part", "at")),
    ("NoPlace", KeyError, ("place",)),
    ("NoProof", Exception, ("where",)),
    ("NoKind", LookupError, ("kind",)),
    ("BadText", ValueError, ("at",)),
    ("NoDeed", ValueError, ("at",)),
    ("NoRow", IndexError, ("number",)),
    ("TooMany", OverflowError, ()),
    ("NotDone", RuntimeError, ("why",)),
    ("NoBook", ValueError, ("number",)),
    ("NoCall", LookupError, ("number",)),
    ("NoEngine", KeyError, ("name",)),
    ("NoEngines", ValueError, ()),
    ("NoLine", ValueError, ("at",)),
    ("NoJoin", IndexError, ("join",)),
    ("NoFlow", ArithmeticError, ("join", "why")),
    ("Late", RuntimeError, ()),
    ("Inside", RuntimeError, ()),
    ("Dead", RuntimeError, ()),
    ("NoTeam", KeyError, ("team",)),
    ("NoWearer", KeyError, ("wearer",)),
    ("NoBoard", ValueError, ("number",)),
    ("NoText", ValueError, ()),
    ("Nothing", RuntimeError, ()),
    ("NoSaying", ValueError, ()),
)


class RefusalsTest(unittest.TestCase):

    def test_each_stands_straight_under_its_class(self):
        for name, above, values in REFUSALS:
            with self.subTest(name=name):
                refusal = getattr(errors, name)
                self.assertEqual(refusal.__bases__, (above,))
                self.assertEqual(refusal.__module__, "whistleboard.errors")

    def test_there_are_no_others(self):
        found = [name for name in vars(errors) if not name.startswith("__")]
        self.assertEqual(sorted(found), sorted([name for name, above, values in REFUSALS]))

    def test_the_values_are_set_when_one_is_made(self):
        for name, above, values in REFUSALS:
            with self.subTest(name=name):
                things = [["thing", at] for at in range(len(values))]
                made = getattr(errors, name)(*things)
                self.assertEqual([getattr(made, value) for value in values], things)

    def test_each_can_be_shown_whatever_it_holds(self):
        for name, above, values in REFUSALS:
            with self.subTest(name=name):
                made = getattr(errors, name)(*[None for value in values])
                self.assertIsInstance(str(made), str)

    def test_a_refusal_is_caught_by_the_class_above_it(self):
        for name, above, values in REFUSALS:
            with self.subTest(name=name), self.assertRaises(above):
                raise getattr(errors, name)(*[0 for value in values])


if __name__ == "__main__":
    unittest.main()
