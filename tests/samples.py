"""Things and grounds that several tests hand in."""

import random

from whistleboard.errors import NoRow, NotDone
from whistleboard.ground import Ground
from whistleboard.room import Room

DEEP = [[[[[[[[[[[[1]]]]]]]]]]]]

# Things of every kind: numbers, truths, None, texts, lists and tuples.
ANY_THINGS = (
    0, 1, -1, 2, 60, 10 ** 59, True, False, None,
    "", "a", "A", "a b", "~", "x" * 6000,
    [], [1], ["a"], [[]], [None], DEEP, list(range(1500)),
    (), (1,), ("a",), ((),), ("a", 1), (("a", 1),), ([], []),
)

NOT_NAMES = (
    "", "A", "aB", "a1", "1", "a b", " a", "a ", "a-b", "a_b", "a`", "a{", "abcdefghi", "x" * 6000,
    0, 1, True, None, ["a"], ("a",), (),
)


def place_name(number):
    """An own name for each number from 0 to 675."""
    letters = "abcdefghijklmnopqrstuvwxyz"
    return letters[number // 26] + letters[number % 26]


def full_parts():
    """Places, roads and stations, as many of each as may be."""
    places = tuple([(place_name(at), at % 4 + 1) for at in range(40)])
    near = [(place_name(at), place_name((at + 1) % 40), 60, 60) for at in range(40)]
    far = [(place_name(at), place_name((at + 2) % 40), 1, 0) for at in range(40)]
    stations = tuple([place_name(at) for at in range(0, 36, 3)])
    return places, tuple(near + far), stations


def chance_parts(seed, most_places=6):
    """Parts of a small ground, the same ones for the same seed; short roads, so that many are equally short."""
    chance = random.Random(seed)
    names = chance.sample([place_name(at) for at in range(30)], chance.randint(1, most_places))
    places = tuple([(name, chance.randint(1, 4)) for name in names])
    roads = []
    for at, start in enumerate(names):
        for goal in names[at + 1:]:
            if chance.random() < 0.6:
                ends = [start, goal]
                chance.shuffle(ends)
                roads.append((ends[0], ends[1], chance.randint(1, 4), chance.randint(0, 3)))
    chance.shuffle(roads)
    stations = tuple(chance.sample(names, chance.randint(0, min(3, len(names)))))
    return places, tuple(roads), stations


def small_ground():
    """A ground of five places, one of them without a road, with two ways of ten minutes from a to d."""
    places = (("d", 1), ("b", 2), ("a", 3), ("c", 4), ("e", 2))
    roads = (("b", "a", 4, 0), ("a", "c", 5, 2), ("d", "b", 6, 3), ("c", "d", 5, 0))
    return Ground(places, roads, ("d", "a"))


def small_engines():
    """Engines at the two stations of the small ground."""
    return (
        ("redone", "pump", "d", 6),
        ("redtwo", "pump", "a", 3),
        ("tall", "ladder", "a", 1),
        ("wet", "tanker", "d", 9),
    )


def put_otherwise(row, at, thing):
    """The tuple with the thing at this place."""
    return row[:at] + (thing,) + row[at + 1:]


def town():
    """A ground of six places with three stations; out can be come to by road 4 alone, far by none."""
    places = (("mill", 1), ("quay", 2), ("hill", 3), ("mart", 4), ("out", 2), ("far", 2))
    roads = (
        ("mill", "quay", 2, 1),
        ("quay", "hill", 3, 4),
        ("hill", "mart", 1, 0),
        ("mart", "mill", 7, 0),
        ("out", "mart", 9, 5),
    )
    return Ground(places, roads, ("mill", "hill", "mart"))


def town_engines():
    """Engines at two of the town's stations; none is at mart."""
    return (
        ("redone", "pump", "mill", 6),
        ("redtwo", "pump", "mill", 4),
        ("redsix", "pump", "hill", 4),
        ("tall", "ladder", "hill", 3),
        ("wet", "tanker", "mill", 2),
    )


def written_room(deeds, ground=None, engines=None):
    """A room of the town in which each of the tuples (minute, deed) was written at its minute."""
    room = Room(ground or town(), town_engines() if engines is None else engines)
    for minute, deed in deeds:
        room.write(minute, minute, deed)
    return room


def any_deed(chance, ground, engines, calls=()):
    """Some deed of the ground and the engines, mostly of one of these calls."""
    name = chance.choice(engines)[0] if engines else "none"
    place = chance.choice(ground.places)[0]
    station = chance.choice(ground.stations) if ground.stations else place
    call = chance.choice(calls) if calls and chance.random() < 0.8 else chance.randint(1, 12)
    road = chance.randrange(max(1, len(ground.roads)))
    kind = chance.choice(("car", "chimney", "grass", "house", "people", "works"))
    often = (("send", name, call), ("there", name), ("back", name), ("home", name), ("on", name))
    return chance.choice(often * 3 + (
        ("call", place, kind), ("call", place, kind), ("again", call), ("make", call, chance.randint(1, 20)),
        ("stop", call), ("off", name), ("stand", name, station), ("lend", name, station), ("shut", road),
        ("clear", road), ("nothing",),
    ))


def chance_room(seed, tries=140, most_minute=9999):
    """A room with rows written late and put right, the same one for the same seed."""
    chance = random.Random(seed)
    room = Room(town(), town_engines())
    written = 0
    for again in range(tries):
        written = min(most_minute, written + chance.choice((0, 0, 1, 3, 20)))
        at = written if chance.random() < 0.6 else chance.randint(0, written)
        right = chance.randint(1, len(room)) if len(room) and chance.random() < 0.2 else 0
        try:
            room.write(written, at, any_deed(chance, room.ground, room.engines, room.calls(at)), right)
        except (NoRow, NotDone):
            pass
    return room
