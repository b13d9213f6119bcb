"""The ground: places, the roads between them, and the stations."""

from whistleboard.errors import NoGround, NoPlace
from whistleboard.things import is_name, is_tuple_within, is_whole_within

SLOW_HOURS = (7, 8, 16, 17)
MOST_PLACES = 40
MOST_ROADS = 80
MOST_STATIONS = 12
MOST_RISK = 4
MOST_MINUTES = 60
MOST_SLOW = 60


class Ground:
    """Places with their risks, roads that are gone either way, and stations."""

    def __init__(self, places, roads, stations):
        self.risks = checked_risks(places)
        check_roads(roads, self.risks)
        check_stations(stations, self.risks)
        self.places = places
        self.roads = roads
        self.stations = stations
        # Equal grounds may have their things in other orders: these have one order only.
        self.sorted_places = sorted(places)
        self.sorted_roads = sorted([ends_of(road) + road[2:] for road in roads])
        self.sorted_stations = sorted(stations)

    def __eq__(self, other):
        return (
            isinstance(other, Ground)
            and self.sorted_places == other.sorted_places
            and self.sorted_roads == other.sorted_roads
            and self.sorted_stations == other.sorted_stations
        )

    def __len__(self):
        return len(self.places)

    def __repr__(self):
        return f"Ground({len(self.places)}, {len(self.roads)}, {len(self.stations)})"

    def __str__(self):
        return "\n".join(self.text_lines())

    def minutes(self, start, goal, hour=0, shut=None):
        """The least minutes from a place to another one, None where it can't be come to."""
        self.check_place(start)
        self.check_place(goal)
        return least_minutes(self.links(hour, shut), start).get(goal)

    def road(self, start, goal, hour=0, shut=None):
        """The least list of places from the one to the other in the least minutes, empty without any."""
        self.check_place(start)
        self.check_place(goal)
        links = self.links(hour, shut)
        left = least_minutes(links, goal)
        if start not in left:
            return []
        return shortest_walk(links, left, start)

    def station_of(self, place, hour=0, shut=None):
        """The nearest station of a place, of equally near ones the least, None without any."""
        self.check_place(place)
        return self.nearest_station(self.links(hour, shut), place)

    def grounds(self, hour=0, shut=None):
        """For each station a tuple of it and the list of the places whose station it is."""
        links = self.links(hour, shut)
        served = {station: [] for station in self.stations}
        for place, risk in self.places:
            station = self.nearest_station(links, place)
            if station is not None:
                served[station].append(place)
        return [(station, served[station]) for station in self.stations]

    def risk(self, place):
        """The risk of a place."""
        self.check_place(place)
        return self.risks[place]

    def check_place(self, thing):
        """NoPlace where the thing is no place of the ground."""
        if not is_place_among(self.risks, thing):
            raise NoPlace(thing)

    def links(self, hour, shut):
        """For each place the list of the places next to it, with the minutes to them."""
        links = {place: [] for place in self.risks}
        for number, (start, goal, minutes, slow) in enumerate(self.roads):
            if shut is None or number not in shut:
                taken = minutes + slow if hour in SLOW_HOURS else minutes
                links[start].append((goal, taken))
                links[goal].append((start, taken))
        return links

    def nearest_station(self, links, place):
        """The nearest station of a place over the links, None without any."""
        least = least_minutes(links, place)
        near = [(least[station], station) for station in self.stations if station in least]
        return min(near)[1] if near else None

    def text_lines(self):
        """The lines of the ground's text."""
        places = [f"place {name} {risk}" for name, risk in self.places]
        roads = [f"road {start} {goal} {minutes} {slow}" for start, goal, minutes, slow in self.roads]
        stations = [f"station {name}" for name in self.stations]
        return places + roads + stations


def least_minutes(links, start):
    """The least minutes from the start to each place that can be come to."""
    least = {}
    ahead = {start: 0}
    while ahead:
        # No road takes less than a minute: the nearest one ahead can't be come to sooner.
        minutes, place = min([(ahead[name], name) for name in ahead])
        del ahead[place]
        least[place] = minutes
        for there, taken in links[place]:
            if there not in least:
                ahead[there] = min(minutes + taken, ahead.get(there, minutes + taken))
    return least


def shortest_walk(links, left, start):
    """The least list of places from the start on, as long as minutes are left."""
    walk = [start]
    here = start
    while left[here] > 0:
        # The least next place makes the least list: no such list begins another one.
        here = min([there for there, taken in links[here] if left[there] + taken == left[here]])
        walk.append(here)
    return walk


def ends_of(road):
    """The two places of a road, the lesser one first."""
    return (min(road[0], road[1]), max(road[0], road[1]))


def is_place_among(risks, thing):
    """Whether the thing is one of the places."""
    # Only names may be looked up: a list can't be.
    return is_name(thing) and thing in risks


def is_station_of(ground, thing):
    """Whether the thing is one of the ground's stations."""
    return thing in ground.stations


def checked_risks(places):
    """Each place's risk; NoGround where the places aren't as told."""
    check_size("places", places, 1, MOST_PLACES)
    risks = {}
    for at, place in enumerate(places):
        if not is_place_with_risk(place) or place[0] in risks:
            raise NoGround("places", at)
        risks[place[0]] = place[1]
    return risks


def check_roads(roads, risks):
    """NoGround where the roads aren't as told."""
    check_size("roads", roads, 0, MOST_ROADS)
    joined = {}
    for at, road in enumerate(roads):
        if not is_road_among(risks, road) or ends_of(road) in joined:
            raise NoGround("roads", at)
        joined[ends_of(road)] = True


def check_stations(stations, risks):
    """NoGround where the stations aren't as told."""
    check_size("stations", stations, 0, MOST_STATIONS)
    seen = {}
    for at, station in enumerate(stations):
        if not is_place_among(risks, station) or station in seen:
            raise NoGround("stations", at)
        seen[station] = True


def check_size(part, thing, least, most):
    """NoGround where the thing is no tuple of least to most things."""
    if not is_tuple_within(thing, least, most):
        raise NoGround(part, -1)


def is_place_with_risk(thing):
    """Whether the thing is a tuple (name, risk)."""
    if not is_tuple_within(thing, 2, 2):
        return False
    return is_name(thing[0]) and is_whole_within(thing[1], 1, MOST_RISK)


def is_road_among(risks, thing):
    """Whether the thing is a tuple (place, place, minutes, slow) of two unlike places."""
    if not is_tuple_within(thing, 4, 4):
        return False
    start, goal, minutes, slow = thing
    if not is_place_among(risks, start) or not is_place_among(risks, goal) or start == goal:
        return False
    return is_whole_within(minutes, 1, MOST_MINUTES) and is_whole_within(slow, 0, MOST_SLOW)
