"""The board at the door: who is in with a cylinder, and until when it lasts."""

from whistleboard.clock import is_minute
from whistleboard.errors import Dead, Inside, Late, NoBoard, NoTeam, NoWearer
from whistleboard.teams import USES, Team
from whistleboard.things import is_name, is_tuple_within, is_whole_within

# Behind each word of a row what has to follow it.
ROWS = {
    "in": ("minute", "name", "name", "work", "wearers"),
    "gauge": ("minute", "name", "name", "bar"),
    "works": ("minute", "name", "work"),
    "dies": ("minute", "name", "name"),
    "out": ("minute", "name", "name"),
    "lost": ("minute", "name", "name"),
    "seen": ("minute", "name", "name"),
}
MOST_BAR = 300
MOST_LITRES = 12
MOST_WEARERS = 4


class Board:
    """A reserve in bar, and the rows that tell who went in, what was gauged, and who is out."""

    def __init__(self, reserve=50):
        self.reserve = reserve
        self.told = []
        self.teams = {}

    def __eq__(self, other):
        return isinstance(other, Board) and self.reserve == other.reserve and self.told == other.told

    def __len__(self):
        return len(self.names_in())

    def enter(self, team, minute, wearers, door="a", work="work"):
        """A team goes in by a door."""
        self.check_minute(minute)
        names = self.names_in()
        if self.has_somebody_in(team) or any([wearer[0] in names for wearer in wearers]):
            raise Inside("in already")
        self.teams[team] = Team(minute, door, work, wearers)
        self.told.append(("in", minute, team, door, work, wearers))

    def gauge(self, team, wearer, minute, bar):
        """The gauge of one who is in."""
        found = self.wearer_in(team, wearer, minute)
        check_gauge(found)
        found.gauged = minute
        found.bar = bar
        self.told.append(("gauge", minute, team, wearer, bar))

    def dies(self, team, wearer, minute):
        """The gauge of one who is in tells nothing any more."""
        found = self.wearer_in(team, wearer, minute)
        check_gauge(found)
        found.is_dead = True
        self.told.append(("dies", minute, team, wearer))

    def works(self, team, minute, work):
        """A team works otherwise from the minute on."""
        self.check_minute(minute)
        found = self.team_in(team)
        found.works_told.append((minute, work))
        self.told.append(("works", minute, team, work))

    def hands_in(self, team, wearer, minute):
        """A tally is handed in: out, or double, or found, where its wearer is out or it was lost."""
        self.check_minute(minute)
        wearers = self.team_ever_in(team).wearers
        if not is_key(wearers, wearer):
            raise NoWearer(wearer)
        found = wearers[wearer]
        if not found.is_in:
            return "double"
        if found.is_lost:
            return "found"
        found.is_in = False
        self.told.append(("out", minute, team, wearer))
        return "out"

    def loses(self, team, wearer, minute):
        """The tally of one who is in is lost: who wears it is in till seen."""
        found = self.wearer_in(team, wearer, minute)
        found.is_lost = True
        self.told.append(("lost", minute, team, wearer))

    def sees(self, team, wearer, minute):
        """One who is in is seen outside."""
        found = self.wearer_in(team, wearer, minute)
        found.is_in = False
        self.told.append(("seen", minute, team, wearer))

    def content(self, team, wearer, minute):
        """The litres that one who is in has at the minute."""
        self.wearer_in(team, wearer, minute)
        return self.teams[team].litres_of(wearer, minute)

    def whistle(self, team):
        """The first whistle of those of the team who are in, None without any."""
        return self.team_ever_in(team).first_whistle(self.reserve)

    def due(self, minute, ahead=10):
        """The teams, by name, whose whistle comes at most so many minutes behind this one."""
        self.check_minute(minute)
        return [team for team in self.teams_in() if self.whistle(team) - ahead <= minute]

    def inside(self):
        """A tuple (team, door, list of the names in) for each team with somebody in, by name."""
        return [(team, self.teams[team].door, self.teams[team].names_in()) for team in self.teams_in()]

    def rows(self):
        """The rows, in the order in which they were told."""
        return list(self.told)

    def teams_in(self):
        """The names of the teams with somebody in, in order."""
        return [team for team in sorted(self.teams) if self.has_somebody_in(team)]

    def names_in(self):
        """The names of all who are in."""
        return [name for team in self.teams_in() for name in self.teams[team].names_in()]

    def has_somebody_in(self, team):
        """Whether a team of this name has somebody in."""
        return is_key(self.teams, team) and len(self.teams[team].names_in()) > 0

    def team_ever_in(self, team):
        """The team of this name, whether anybody of it is in or not."""
        if not is_key(self.teams, team):
            raise NoTeam(team)
        return self.teams[team]

    def team_in(self, team):
        """The team of this name that has somebody in."""
        if not self.has_somebody_in(team):
            raise NoTeam(team)
        return self.teams[team]

    def wearer_in(self, team, wearer, minute):
        """The wearer of the team, who is in, for a minute that may be told."""
        self.check_minute(minute)
        found = self.team_in(team)
        if not is_key(found.wearers, wearer) or not found.wearers[wearer].is_in:
            raise NoWearer(wearer)
        return found.wearers[wearer]

    def check_minute(self, minute):
        """Late where the minute is less than that of the last row."""
        if self.told and minute < self.told[-1][1]:
            raise Late("less than the last row's minute")


def check_gauge(wearer):
    """Dead where the wearer's gauge has died."""
    if wearer.is_dead:
        raise Dead("the gauge has died")


def is_key(named, thing):
    """Whether the thing is one of the names of teams or wearers."""
    # Only texts may be looked up: a list can't be.
    return isinstance(thing, str) and thing in named


def carried(reserve, thing):
    """The board that the rows tell, each done anew; else NoBoard."""
    board = Board(reserve)
    if not isinstance(thing, list):
        raise NoBoard(0)
    for at, row in enumerate(thing):
        if not is_row(row) or not is_done_anew(board, row):
            raise NoBoard(at + 1)
    return board


def is_row(thing):
    """Whether the thing is a row of a board, whether it can be done or not."""
    if not isinstance(thing, tuple) or len(thing) == 0:
        return False
    # Only texts may be looked up: a list can't be.
    if not isinstance(thing[0], str) or thing[0] not in ROWS:
        return False
    sorts = ROWS[thing[0]]
    return len(thing) == 1 + len(sorts) and all([fits(sort, part) for sort, part in zip(sorts, thing[1:])])


def fits(sort, thing):
    """Whether the thing is of the sort that a row asks for there."""
    if sort == "minute":
        return is_minute(thing)
    if sort == "name":
        return is_name(thing)
    if sort == "work":
        return isinstance(thing, str) and thing in USES
    if sort == "bar":
        return is_whole_within(thing, 0, MOST_BAR)
    return are_wearers(thing)


def are_wearers(thing):
    """Whether the thing is the wearers of a team that goes in."""
    if not is_tuple_within(thing, 1, MOST_WEARERS) or not all([is_wearer(wearer) for wearer in thing]):
        return False
    return len({wearer[0] for wearer in thing}) == len(thing)


def is_wearer(thing):
    """Whether the thing is a tuple (name, bar, litres)."""
    if not is_tuple_within(thing, 3, 3) or not is_name(thing[0]):
        return False
    return is_whole_within(thing[1], 1, MOST_BAR) and is_whole_within(thing[2], 1, MOST_LITRES)


def is_done_anew(board, row):
    """Do what the row tells; whether it could be done and made a row."""
    many = len(board.told)
    try:
        do_row(board, row)
    except (Late, Inside, NoTeam, NoWearer, Dead):
        return False
    # A tally handed in twice, or found, makes none.
    return len(board.told) > many


def do_row(board, row):
    """Do what the row tells, as it was done at first."""
    word, minute, team = row[:3]
    if word == "in":
        board.enter(team, minute, row[5], row[3], row[4])
    elif word == "gauge":
        board.gauge(team, row[3], minute, row[4])
    elif word == "works":
        board.works(team, minute, row[3])
    elif word == "dies":
        board.dies(team, row[3], minute)
    elif word == "out":
        board.hands_in(team, row[3], minute)
    elif word == "lost":
        board.loses(team, row[3], minute)
    else:
        board.sees(team, row[3], minute)
