"""Sending: what a call so told would be, what a call lacks, and the nearest engines for it."""

from whistleboard.calls import attendance, is_kind
from whistleboard.crews import SORTS
from whistleboard.errors import NoCall, NoKind, NoProof
from whistleboard.ground import least_minutes
from whistleboard.things import is_tuple_within, is_whole

# A call told again within these minutes, and from so near, is the same call.
MINUTES_AGAIN = 30
MINUTES_NEAR = 2
# A crew that is at home has to man its engine first.
MINUTES_TO_LEAVE = 2
FREE_WORDS = ("home", "back")


def heard(room, place, kind, at):
    """The deed that a call of this kind, told of this place at this minute, would be."""
    room.ground.check_place(place)
    if not is_kind(kind):
        raise NoKind(kind)
    least = least_minutes(room.links_at(at), place)
    near = [name for name in least if least[name] <= MINUTES_NEAR]
    state = room.state_at(at)
    for number in state.open_calls():
        told_place, told_kind, minute, asked, is_open = state.call_states[number]
        if told_kind == kind and at - minute <= MINUTES_AGAIN and told_place in near:
            return ("again", number)
    return ("call", place, kind)


def lacking(room, call, at):
    """A tuple (pumps, ladders, tankers): what is due to the call, less the engines under it."""
    place, kind, minute, asked, is_open, under = call_at(room, call, at)
    due = attendance(kind, room.ground.risk(place), asked)
    sorts = [sort for name, sort, station, seats in room.engines if name in under]
    return tuple([max(0, many - sorts.count(sort)) for sort, many in zip(SORTS, due)])


def nearest(room, call, at):
    """A list of tuples (engine, minutes): of each sort as many as lack, or all that can come."""
    told = []
    for coming, many in zip(coming_by_sorts(room, call, at), lacking(room, call, at)):
        told.extend([(name, minutes) for minutes, name in coming[:many]])
    return told


def short(room, call, at):
    """A tuple (pumps, ladders, tankers): what is lacking, less the nearest ones."""
    lacks = lacking(room, call, at)
    most = most_coming(lacks, coming_by_sorts(room, call, at))
    return tuple([many - given for many, given in zip(lacks, most)])


def look_nearest(room, call, at, thing):
    """NoProof where the thing is no list of the nearest engines for the call, by its first fault."""
    lacks = lacking(room, call, at)
    coming = coming_by_sorts(room, call, at)
    if not is_paper(thing):
        raise NoProof("paper")
    if not are_coming(coming, thing):
        raise NoProof("engine")
    keys = order_keys(coming, thing)
    if keys != sorted(keys):
        raise NoProof("order")
    sorts = [key[0] for key in keys]
    if [sorts.count(place) for place in range(len(SORTS))] != most_coming(lacks, coming):
        raise NoProof("many")
    # As many as can be, in order: unlike the nearest ones they are only where a nearer one is left out.
    if thing != nearest(room, call, at):
        raise NoProof("nearer")


def call_at(room, thing, at):
    """What is told of a call that is open at the minute; else NoCall."""
    told = room.call(thing, at)
    if not told[4]:
        raise NoCall(thing)
    return told


def coming_by_sorts(room, call, at):
    """For each sort a list of tuples (minutes, name) of the free engines that can come, nearest first."""
    minutes = least_minutes(room.links_at(at), call_at(room, call, at)[0])
    states = room.state_at(at).engine_states
    coming = {sort: [] for sort in SORTS}
    for name, sort, station, seats in room.engines:
        word, place, own, under = states[name]
        if word in FREE_WORDS and place in minutes:
            more = MINUTES_TO_LEAVE if word == "home" else 0
            coming[sort].append((minutes[place] + more, name))
    return [sorted(coming[sort]) for sort in SORTS]


def most_coming(lacks, coming):
    """Of each sort as many as lack, or as can come."""
    return [min(many, len(sort)) for many, sort in zip(lacks, coming)]


def is_paper(thing):
    """Whether the thing is a list of tuples of two."""
    return isinstance(thing, list) and all([is_tuple_within(row, 2, 2) for row in thing])


def are_coming(coming, rows):
    """Whether each row has an engine that can come, none twice, and its minutes."""
    left = {name: minutes for sort in coming for minutes, name in sort}
    for name, minutes in rows:
        if not isinstance(name, str) or name not in left or not is_whole(minutes) or minutes != left[name]:
            return False
        del left[name]
    return True


def order_keys(coming, rows):
    """For each row what puts it in order: its sort's place, its minutes and its name."""
    sorts = {name: at for at, sort in enumerate(coming) for minutes, name in sort}
    return [(sorts[name], minutes, name) for name, minutes in rows]
