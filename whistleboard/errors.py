"""What the watch room refuses with."""

# A refusal's words never show the refused thing: it may be any thing, however long.


class BadTime(ValueError):
    """A thing is no minute, or not the text of one."""


class NoGround(ValueError):
    """Things make no ground: the part, and the number in it of the first wrong thing."""

    def __init__(self, part, at):
        ValueError.__init__(self, f"no ground: {part}, {at}")
        self.part = part
        self.at = at


class NoPlace(KeyError):
    """A thing is no place of the ground."""

    def __init__(self, place):
        KeyError.__init__(self, "no such place")
        self.place = place


class NoProof(Exception):
    """A paper does not show what it should."""

    def __init__(self, where):
        Exception.__init__(self, f"no proof: {where}")
        self.where = where


class NoKind(LookupError):
    """A thing is no kind of call, or no risk (then the kind is None)."""

    def __init__(self, kind):
        LookupError.__init__(self, "no such kind or risk")
        self.kind = kind


class BadText(ValueError):
    """A thing is not the text of a call."""

    def __init__(self, at):
        ValueError.__init__(self, f"no call's text: {at}")
        self.at = at


class NoDeed(ValueError):
    """A thing is no deed of the room."""

    def __init__(self, at):
        ValueError.__init__(self, f"no deed: {at}")
        self.at = at


class NoRow(IndexError):
    """A thing is not the number of a row that may be put right."""

    def __init__(self, number):
        IndexError.__init__(self, "no such row")
        self.number = number


class TooMany(OverflowError):
    """The book is full."""


class NotDone(RuntimeError):
    """A deed can't be done in the state in which it would be."""

    def __init__(self, why):
        RuntimeError.__init__(self, f"not done: {why}")
        self.why = why


class NoBook(ValueError):
    """Things are not the rows of a room."""

    def __init__(self, number):
        ValueError.__init__(self, f"no book: {number}")
        self.number = number


class NoCall(LookupError):
    """A thing is not the number of such a call."""

    def __init__(self, number):
        LookupError.__init__(self, "no such call")
        self.number = number


class NoEngine(KeyError):
    """A thing is not the name of an engine of the room."""

    def __init__(self, name):
        KeyError.__init__(self, "no such engine")
        self.name = name


class NoEngines(ValueError):
    """A thing is not the engines of a room."""


class NoLine(ValueError):
    """Things make no line."""

    def __init__(self, at):
        ValueError.__init__(self, f"no line: {at}")
        self.at = at


class NoJoin(IndexError):
    """A thing is not a join that a line can be without."""

    def __init__(self, join):
        IndexError.__init__(self, "no such join")
        self.join = join


class NoFlow(ArithmeticError):
    """A line fails: at its first failing join, and why."""

    def __init__(self, join, why):
        ArithmeticError.__init__(self, f"no flow: {join}, {why}")
        self.join = join
        self.why = why


class Late(RuntimeError):
    """A minute is less than that of the last row."""


class Inside(RuntimeError):
    """Somebody of this name is in already."""


class Dead(RuntimeError):
    """The wearer's gauge has died."""


class NoTeam(KeyError):
    """No such team has somebody in."""

    def __init__(self, team):
        KeyError.__init__(self, "no such team")
        self.team = team


class NoWearer(KeyError):
    """No such wearer of the team is in."""

    def __init__(self, wearer):
        KeyError.__init__(self, "no such wearer")
        self.wearer = wearer


class NoBoard(ValueError):
    """Things are not the rows of a board."""

    def __init__(self, number):
        ValueError.__init__(self, f"no board: {number}")
        self.number = number


class NoText(ValueError):
    """A thing is not such a text."""


class Nothing(RuntimeError):
    """There is no draft."""


class NoSaying(ValueError):
    """A thing is nothing that can be said to the desk."""
