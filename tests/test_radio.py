"""Points 3 and 29: messages new, double and clashing, in every order, lost and late."""

import itertools
import random
import unittest

from tests.samples import ANY_THINGS
from whistleboard.radio import Radio

MESSAGES = (
    ("red", 1, "a"), ("red", 2, "b"), ("red", 3, "c"), ("red", 3, "d"), ("blue", 1, "a"), ("blue", 3, "z"),
)


def radio_of(messages):
    radio = Radio()
    for message in messages:
        radio.hears(*message)
    return radio


def told_of(radio, senders=("red", "blue", "green")):
    return len(radio), [radio.read(sender) for sender in senders], [radio.missing(sender) for sender in senders]


def told_due(messages, senders=("red", "blue", "green")):
    """What is told of these messages, out of the set of them alone."""
    texts = {}
    for sender, number, text in set(messages):
        texts.setdefault((sender, number), []).append(text)
    standing = {key: found[0] for key, found in texts.items() if len(found) == 1}
    reads, misses = [], []
    for sender in senders:
        numbers = [number for name, number in texts if name == sender]
        read = []
        for number in range(1, 1000):
            if (sender, number) not in standing:
                break
            read.append(standing[(sender, number)])
        reads.append(read)
        misses.append([number for number in range(1, max(numbers + [0])) if (sender, number) not in standing])
    return len(standing), reads, misses


class HearsTest(unittest.TestCase):

    def test_new_double_and_clash(self):
        radio = Radio()
        self.assertEqual(radio.hears("red", 1, "a"), "new")
        self.assertEqual(radio.hears("red", 1, "a"), "double")
        self.assertEqual(radio.hears("red", 1, "b"), "clash")
        self.assertEqual(radio.hears("red", 1, "a"), "double")
        self.assertEqual(radio.hears("red", 1, "b"), "double")
        self.assertEqual(radio.hears("red", 1, "c"), "clash")
        self.assertEqual(radio.hears("red", 2, "a"), "new")
        self.assertEqual(radio.hears("blue", 1, "b"), "new")

    def test_by_names(self):
        radio = Radio()
        self.assertEqual(radio.hears(text="a", number=1, sender="red"), "new")
        self.assertEqual((radio.read(sender="red"), radio.missing(sender="red")), (["a"], []))

    def test_texts_of_all_signs(self):
        radio = Radio()
        for text in ("", " ", "a", "A", "a ", "x" * 6000):
            self.assertEqual(radio.hears("red", 1, text), "new" if text == "" else "clash")
            self.assertEqual(radio.hears("red", 1, text), "double")


class ReadTest(unittest.TestCase):

    def test_nothing_heard(self):
        radio = Radio()
        self.assertEqual((radio.read("red"), radio.missing("red"), len(radio), bool(radio)), ([], [], 0, False))

    def test_up_to_the_first_lack(self):
        radio = radio_of([("red", 1, "a"), ("red", 2, "b"), ("red", 4, "d")])
        self.assertEqual((radio.read("red"), radio.missing("red"), len(radio)), (["a", "b"], [3], 3))
        radio.hears("red", 3, "c")
        self.assertEqual((radio.read("red"), radio.missing("red"), len(radio)), (["a", "b", "c", "d"], [], 4))

    def test_without_the_first(self):
        radio = radio_of([("red", 2, "b"), ("red", 999, "z")])
        self.assertEqual((radio.read("red"), radio.missing("red")), ([], [1] + list(range(3, 999))))

    def test_a_clash_has_none_that_stands(self):
        radio = radio_of([("red", 1, "a"), ("red", 2, "b"), ("red", 2, "x"), ("red", 3, "c")])
        self.assertEqual((radio.read("red"), radio.missing("red"), len(radio)), (["a"], [2], 2))
        # Hearing one of both again changes nothing.
        radio.hears("red", 2, "b")
        self.assertEqual((radio.read("red"), radio.missing("red"), len(radio)), (["a"], [2], 2))

    def test_a_clash_under_the_greatest_number(self):
        radio = radio_of([("red", 1, "a"), ("red", 3, "b"), ("red", 3, "x")])
        self.assertEqual((radio.read("red"), radio.missing("red"), len(radio)), (["a"], [2], 1))
        radio = radio_of([("red", 1, "a"), ("red", 1, "b")])
        self.assertEqual((radio.read("red"), radio.missing("red"), len(radio), bool(radio)), ([], [], 0, False))

    def test_senders_apart(self):
        radio = radio_of([("red", 1, "a"), ("blue", 2, "b"), ("blue", 1, "x")])
        self.assertEqual((radio.read("red"), radio.read("blue"), radio.missing("blue")), (["a"], ["x", "b"], []))
        self.assertEqual((radio.read("green"), radio.missing("green")), ([], []))

    def test_the_same_text_under_two_numbers(self):
        radio = radio_of([("red", 1, "a"), ("red", 2, "a")])
        self.assertEqual((radio.read("red"), len(radio)), (["a", "a"], 2))

    def test_told_lists_are_the_askers_own(self):
        radio = radio_of([("red", 1, "a"), ("red", 3, "c")])
        read, missing = radio.read("red"), radio.missing("red")
        radio.read("red").append("x")
        radio.missing("red").clear()
        radio.hears("red", 2, "b")
        self.assertEqual((read, missing), (["a"], [2]))
        self.assertEqual((radio.read("red"), radio.missing("red")), (["a", "b", "c"], []))


class OrderTest(unittest.TestCase):

    def test_every_order_and_loss(self):
        for many in range(len(MESSAGES) + 1):
            for messages in itertools.combinations(MESSAGES, many):
                due = told_due(messages)
                first = radio_of(messages)
                for order in itertools.permutations(messages):
                    radio = radio_of(order)
                    self.assertEqual(told_of(radio), due)
                    self.assertTrue(radio == first)

    def test_doubled_and_late(self):
        for seed in range(100):
            chance = random.Random(seed)
            messages = [(chance.choice(("red", "blue")), chance.randint(1, 8), chance.choice("abc")) for again in range(12)]
            heard = messages + chance.choices(messages, k=10)
            chance.shuffle(heard)
            radio = radio_of(heard)
            self.assertEqual(told_of(radio), told_due(messages))
            self.assertTrue(radio == radio_of(messages))
            self.assertEqual([radio.hears(*message) for message in messages], ["double"] * 12)


class EqualTest(unittest.TestCase):

    def test_equal_and_unlike(self):
        self.assertIs(Radio() == Radio(), True)
        self.assertIs(Radio() != Radio(), False)
        radio = radio_of(MESSAGES)
        self.assertTrue(radio == radio_of(MESSAGES[::-1] * 2))
        for at in range(len(MESSAGES)):
            self.assertIs(radio == radio_of(MESSAGES[:at] + MESSAGES[at + 1:]), False)
        self.assertFalse(radio == radio_of(MESSAGES + (("red", 4, "e"),)))
        self.assertFalse(radio_of([("red", 1, "a")]) == radio_of([("red", 1, "b")]))
        self.assertFalse(radio_of([("red", 1, "a")]) == radio_of([("blue", 1, "a")]))
        self.assertFalse(radio_of([("red", 1, "a")]) == radio_of([("red", 2, "a")]))
        # Under the number nothing stands in either, but they heard other texts.
        self.assertFalse(radio_of([("red", 1, "a"), ("red", 1, "b")]) == radio_of([("red", 1, "a"), ("red", 1, "c")]))

    def test_reading_does_not_make_unlike(self):
        one, other = radio_of(MESSAGES), radio_of(MESSAGES)
        one.read("green")
        one.missing("green")
        self.assertTrue(one == other)

    def test_things_of_other_kinds(self):
        for thing in ANY_THINGS + ([], {}):
            self.assertIs(Radio() == thing, False)
            self.assertIs(thing == Radio(), False)

    def test_two_radios_share_nothing(self):
        one, other = Radio(), Radio()
        one.hears("red", 1, "a")
        self.assertEqual((len(other), other.read("red"), other.hears("red", 1, "a")), (0, [], "new"))


if __name__ == "__main__":
    unittest.main()
