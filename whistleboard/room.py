"""The room: the book of its rows, and the state that they tell."""

from whistleboard.clock import hour_of, is_minute
from whistleboard.crews import are_engines
from whistleboard.deeds import fault
from whistleboard.errors import BadTime, NoBook, NoCall, NoDeed, NoEngine, NoEngines, NoRow, NotDone, TooMany
from whistleboard.rows import Row
from whistleboard.state import State
from whistleboard.things import is_whole, is_whole_within

MOST_ROWS = 200


class Room:
    """A ground, engines, and a book whose living rows tell what is so at each minute."""

    def __init__(self, ground, engines):
        if not are_engines(ground, engines):
            raise NoEngines("no engines of the ground")
        self.ground = ground
        self.engines = engines
        self.book = []

    def __eq__(self, other):
        return (
            isinstance(other, Room)
            and self.ground == other.ground
            and self.engines == other.engines
            and self.book == other.book
        )

    def __len__(self):
        return len(self.book)

    def __repr__(self):
        return f"Room({len(self.engines)}, {len(self.book)})"

    def write(self, written, at, deed, right=0):
        """Write a row of the deed, and tell the row."""
        wrong = fault(self.ground, self.engines, deed)
        if wrong != -1:
            raise NoDeed(wrong)
        self.check_times(written, at)
        if not self.may_be_put_right(right):
            raise NoRow(right)
        if len(self.book) >= MOST_ROWS:
            raise TooMany("the book is full")
        row = Row(len(self.book) + 1, written, at, deed, right)
        why = self.why_not(row)
        if why is not None:
            raise NotDone(why)
        self.book.append(row)
        return row

    def rows(self):
        """The rows, in the order in which they were written."""
        return list(self.book)

    def void(self):
        """A tuple (number, why) for each living row that can't be done where it stands."""
        return self.played(living_rows(self.book))[1]

    def engine(self, name, at=None):
        """A tuple (word, place, own station, call) of an engine, at a minute or at the last one."""
        state = self.state_at(at)
        # Only texts may be looked up: a list can't be.
        if not isinstance(name, str) or name not in state.engine_states:
            raise NoEngine(name)
        return state.engine_states[name]

    def call(self, number, at=None):
        """A tuple (place, kind, minute, pumps asked for, whether it is open, list of engines) of a call."""
        state = self.state_at(at)
        if not is_whole(number) or number not in state.call_states:
            raise NoCall(number)
        return state.call_states[number] + (state.under(number),)

    def calls(self, at=None):
        """The numbers of the open calls, rising."""
        return self.state_at(at).open_calls()

    def shut(self, at=None):
        """The numbers of the roads that are shut, rising."""
        return sorted(self.state_at(at).shut_roads)

    def state_at(self, at):
        """The state at a minute, None for the last one."""
        return self.played([row for row in living_rows(self.book) if at is None or row.at <= at])[0]

    def links_at(self, at):
        """The ground's links over the roads that aren't shut at the minute, in its hour."""
        return self.ground.links(hour_of(at), self.shut(at))

    def twin(self):
        """Another room with the same rows."""
        room = Room(self.ground, self.engines)
        room.book = list(self.book)
        return room

    def check_times(self, written, at):
        """BadTime where these aren't the minutes of a next row."""
        if not is_minute(written) or not is_minute(at) or at > written:
            raise BadTime("no such minutes")
        if self.book and written < self.book[-1].written:
            raise BadTime("less than the last row's minute")

    def may_be_put_right(self, thing):
        """Whether the thing is 0, or the number of a row that no row puts right."""
        if not is_whole_within(thing, 0, len(self.book)):
            return False
        return thing == 0 or all([row.right != thing for row in self.book])

    def why_not(self, row):
        """Why the deed of a next row can't be done where it would stand, None where it can be."""
        living = [other for other in living_rows(self.book) if other.number != row.right and other.at <= row.at]
        return self.played(living)[0].why_not(row.deed)

    def played(self, rows):
        """A tuple of the state behind these rows, and the list of those that can't be done, with why."""
        state = State(self.engines)
        firsts = chain_firsts(self.book)
        void = []
        for row in rows:
            why = state.why_not(row.deed)
            if why is None:
                state.do(row.deed, row.at, firsts[row.number])
            else:
                void.append((row.number, why))
        return state, void


def take_up(ground, engines, thing):
    """The room that the rows tell, each written anew; else NoBook."""
    room = Room(ground, engines)
    if not isinstance(thing, list):
        raise NoBook(0)
    for at, row in enumerate(thing):
        if not is_written_anew(room, row, at + 1):
            raise NoBook(at + 1)
    return room


def is_written_anew(room, thing, number):
    """Write the thing as a next row; whether it is a row of this number that could be written."""
    # True is equal to 1, but it is no number.
    if not isinstance(thing, Row) or not is_whole(thing.number) or thing.number != number:
        return False
    try:
        room.write(thing.written, thing.at, thing.deed, thing.right)
    except (NoDeed, BadTime, NoRow, TooMany, NotDone):
        return False
    return True


def living_rows(rows):
    """The rows that no row puts right, by their minutes, then by their numbers."""
    dead = {row.right: True for row in rows}
    return sorted([row for row in rows if row.number not in dead], key=lambda row: (row.at, row.number))


def chain_firsts(rows):
    """For each row's number that of the first row of its chain."""
    firsts = {}
    for row in rows:
        firsts[row.number] = row.number if row.right == 0 else firsts[row.right]
    return firsts
