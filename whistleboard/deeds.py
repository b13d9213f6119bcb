"""Deeds: what is written in the book, and what is wrong with a thing that is none."""

from whistleboard.calls import MOST_PUMPS, is_kind
from whistleboard.ground import is_place_among, is_station_of
from whistleboard.things import is_whole_within

# Behind each word what has to follow it.
DEEDS = {
    "call": ("place", "kind"),
    "again": ("call",),
    "make": ("call", "pumps"),
    "stop": ("call",),
    "send": ("engine", "call"),
    "there": ("engine",),
    "back": ("engine",),
    "home": ("engine",),
    "off": ("engine",),
    "on": ("engine",),
    "stand": ("engine", "station"),
    "lend": ("engine", "station"),
    "shut": ("road",),
    "clear": ("road",),
    "nothing": (),
}
MOST_CALL = 200


def fault(ground, engines, thing):
    """The place in the thing of the first one that isn't as told, -1 where it is a deed."""
    if not has_deeds_form(thing):
        return 0
    for at, sort in enumerate(DEEDS[thing[0]]):
        if not fits(ground, engines, sort, thing[at + 1]):
            return at + 1
    return -1


def has_deeds_form(thing):
    """Whether the thing is a tuple with a deed's word and as many things behind it as that asks for."""
    if not isinstance(thing, tuple) or len(thing) == 0:
        return False
    # Only texts may be looked up: a list can't be.
    if not isinstance(thing[0], str) or thing[0] not in DEEDS:
        return False
    return len(thing) == 1 + len(DEEDS[thing[0]])


def fits(ground, engines, sort, thing):
    """Whether the thing is of the sort that a deed asks for there."""
    if sort == "place":
        return is_place_among(ground.risks, thing)
    if sort == "station":
        return is_station_of(ground, thing)
    if sort == "road":
        return is_whole_within(thing, 0, len(ground.roads) - 1)
    if sort == "engine":
        return thing in [engine[0] for engine in engines]
    if sort == "kind":
        return is_kind(thing)
    if sort == "call":
        return is_whole_within(thing, 1, MOST_CALL)
    return is_whole_within(thing, 1, MOST_PUMPS)
