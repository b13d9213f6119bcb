"""Cover: how near the pumps at home are to each place, and moves that fill empty stations."""

from whistleboard.ground import least_minutes
from whistleboard.pairing import paired


def cover(room, at):
    """For each place a tuple of it and the least minutes from a pump at home, None without any."""
    links = room.links_at(at)
    near = [least_minutes(links, place) for place in sorted({place for name, place in pumps_at_home(room, at)})]
    told = []
    for place, risk in room.ground.places:
        told.append((place, min([least[place] for least in near if place in least], default=None)))
    return told


def uncovered(room, at, limit):
    """The places to which no pump at home comes within the limit."""
    return [place for place, minutes in cover(room, at) if minutes is None or minutes > limit]


def moves(room, at, limit):
    """A tuple (moves, band): tuples (engine, station), and empty stations that show that no more can be filled."""
    pumps = pumps_at_home(room, at)
    stands = [place for name, place in pumps]
    empty = [station for station in room.ground.stations if station not in stands]
    spare = spare_ones(pumps)
    pairs, band = paired(fitting_ones(room, at, limit, empty, spare))
    told = [(spare[holder][0], station) for station, holder in zip(empty, pairs) if holder is not None]
    return told, [empty[wish] for wish in band]


def pumps_at_home(room, at):
    """Tuples (name, place where it stands) of the pumps at home, by name."""
    states = room.state_at(at).engine_states
    pumps = sorted([name for name, sort, station, seats in room.engines if sort == "pump"])
    return [(name, states[name][1]) for name in pumps if states[name][0] == "home"]


def spare_ones(pumps):
    """Those pumps that aren't the first ones where they stand."""
    spare = []
    seen = {}
    for name, place in pumps:
        if place in seen:
            spare.append((name, place))
        seen[place] = True
    return spare


def fitting_ones(room, at, limit, stations, pumps):
    """For each station the places, among the pumps, of those that reach it within the limit."""
    links = room.links_at(at)
    fitting = []
    for station in stations:
        least = least_minutes(links, station)
        fitting.append([holder for holder, pump in enumerate(pumps) if least.get(pump[1], limit + 1) <= limit])
    return fitting
