"""Engines, the hands who man them, and the crews of a day."""

from whistleboard.ground import is_station_of
from whistleboard.pairing import paired
from whistleboard.things import is_name, is_tuple_within, is_whole_within

SORTS = ("pump", "ladder", "tanker")
SKILLS = ("drive", "lead", "wear")
MOST_ENGINES = 24
MOST_SEATS = 9
MOST_HANDS = 60
LAST_SHIFT = 3
MOST_SKILLS = 5
LAST_SKILL_DAY = 9
DAYS_OF_ROUND = 4
DAYS_ON_WATCH = 2


def are_engines(ground, thing):
    """Whether the thing is engines, each with a station of the ground."""
    if not is_tuple_within(thing, 0, MOST_ENGINES):
        return False
    return all([is_engine(ground, engine) for engine in thing]) and have_unlike_names(thing)


def is_engine(ground, thing):
    """Whether the thing is a tuple (name, sort, station, seats)."""
    if not is_tuple_within(thing, 4, 4):
        return False
    name, sort, station, seats = thing
    if not is_name(name) or sort not in SORTS:
        return False
    return is_station_of(ground, station) and is_whole_within(seats, 1, MOST_SEATS)


def are_hands(ground, thing):
    """Whether the thing is hands, each with a station of the ground."""
    if not is_tuple_within(thing, 0, MOST_HANDS):
        return False
    return all([is_hand(ground, hand) for hand in thing]) and have_unlike_names(thing)


def is_hand(ground, thing):
    """Whether the thing is a tuple (name, station, shift, skills)."""
    if not is_tuple_within(thing, 4, 4):
        return False
    name, station, shift, skills = thing
    if not is_name(name) or not is_station_of(ground, station):
        return False
    return is_whole_within(shift, 0, LAST_SHIFT) and are_skills(skills)


def are_skills(thing):
    """Whether the thing is a hand's skills; the same skill may be among them again."""
    return is_tuple_within(thing, 0, MOST_SKILLS) and all([is_skill(skill) for skill in thing])


def is_skill(thing):
    """Whether the thing is a tuple (skill, last day)."""
    if not is_tuple_within(thing, 2, 2):
        return False
    return thing[0] in SKILLS and is_whole_within(thing[1], 0, LAST_SKILL_DAY)


def have_unlike_names(rows):
    """Whether no two of the tuples begin with the same name."""
    return len({row[0] for row in rows}) == len(rows)


def crews(engines, hands, day):
    """For each engine a tuple of its name, its driver's name or None, and the list of the others' names."""
    on_watch = [hand for hand in hands if is_on_watch(hand, day)]
    pairs, band = paired([fitting_drivers(on_watch, engine[2], day) for engine in engines])
    drivers = [None if place is None else on_watch[place][0] for place in pairs]
    return manned(engines, drivers, on_watch)


def is_on_watch(hand, day):
    """Whether the hand's shift is on watch on the day."""
    return (day + hand[2]) % DAYS_OF_ROUND < DAYS_ON_WATCH


def fitting_drivers(hands, station, day):
    """The places of the hands who may drive an engine of the station on the day."""
    return [place for place, hand in enumerate(hands) if hand[1] == station and can_drive(hand, day)]


def can_drive(hand, day):
    """Whether the hand has the skill to drive on the day."""
    return any([skill == "drive" and last >= day for skill, last in hand[3]])


def manned(engines, drivers, hands):
    """The crews with these drivers: each engine that has one takes others of its station by name."""
    waiting = sorted([(hand[0], hand[1]) for hand in hands if hand[0] not in drivers])
    told = []
    for (engine, sort, station, seats), driver in zip(engines, drivers):
        others = []
        if driver is not None:
            others = [name for name, home in waiting if home == station][:seats - 1]
            waiting = [hand for hand in waiting if hand[0] not in others]
        told.append((engine, driver, others))
    return told
