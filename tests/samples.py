"""Things and grounds that several tests hand in."""

import random

from whistleboard.ground import Ground

DEEP = [[[[[[[[[[[[1]]]]]]]]]]]]

# Things of every kind: numbers, truths, None, texts, lists and tuples.
ANY_THINGS = (
    0, 1, -1, 2, 60, 10 ** 59, True, False, None,
    "", "a", "A", "a b", "~", "x" * 6000,
    [], [1], ["a"], [[]], [None], DEEP, list(range(1500)),
    (), (1,), ("a",), ((),), ("a", 1), (("a", 1),), ([], []),
)

NOT_NAMES = (
    "", "A", "aB", "a1", "1", "a b", " a", "a ", "a-b", "a_b", "a`", "a{", "abcdefghi", "x" * 6000,
    0, 1, True, None, ["a"], ("a",), (),
)


def place_name(number):
    """An own name for each number from 0 to 675."""
    letters = "abcdefghijklmnopqrstuvwxyz"
    return letters[number // 26] + letters[number % 26]


def full_parts():
    """Places, roads and stations, as many of each as may be."""
    places = tuple([(place_name(at), at % 4 + 1) for at in range(40)])
    near = [(place_name(at), place_name((at + 1) % 40), 60, 60) for at in range(40)]
    far = [(place_name(at), place_name((at + 2) % 40), 1, 0) for at in range(40)]
    stations = tuple([place_name(at) for at in range(0, 36, 3)])
    return places, tuple(near + far), stations


def chance_parts(seed, most_places=6):
    """Parts of a small ground, the same ones for the same seed; short roads, so that many are equally short."""
    chance = random.Random(seed)
    names = chance.sample([place_name(at) for at in range(30)], chance.randint(1, most_places))
    places = tuple([(name, chance.randint(1, 4)) for name in names])
    roads = []
    for at, start in enumerate(names):
        for goal in names[at + 1:]:
            if chance.random() < 0.6:
                ends = [start, goal]
                chance.shuffle(ends)
                roads.append((ends[0], ends[1], chance.randint(1, 4), chance.randint(0, 3)))
    chance.shuffle(roads)
    stations = tuple(chance.sample(names, chance.randint(0, min(3, len(names)))))
    return places, tuple(roads), stations


def small_ground():
    """A ground of five places, one of them without a road, with two ways of ten minutes from a to d."""
    places = (("d", 1), ("b", 2), ("a", 3), ("c", 4), ("e", 2))
    roads = (("b", "a", 4, 0), ("a", "c", 5, 2), ("d", "b", 6, 3), ("c", "d", 5, 0))
    return Ground(places, roads, ("d", "a"))


def small_engines():
    """Engines at the two stations of the small ground."""
    return (
        ("redone", "pump", "d", 6),
        ("redtwo", "pump", "a", 3),
        ("tall", "ladder", "a", 1),
        ("wet", "tanker", "d", 9),
    )


def put_otherwise(row, at, thing):
    """The tuple with the thing at this place."""
    return row[:at] + (thing,) + row[at + 1:]
