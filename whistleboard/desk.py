"""The desk: rows of words are said to it, and it answers in words."""

from whistleboard.cover import cover, moves
from whistleboard.errors import NoSaying, NoText, Nothing
from whistleboard.room import Room
from whistleboard.sending import lacking, nearest
from whistleboard.texts import read_deed, read_minute, read_name, read_number, show_book

# Behind each word what has to follow it.
SAYINGS = {
    "draft": ("time", "deed"),
    "undo": (),
    "write": ("time",),
    "right": ("number", "time", "time", "deed"),
    "engine": ("name",),
    "call": ("number",),
    "calls": (),
    "void": (),
    "book": (),
    "lacking": ("number", "time"),
    "nearest": ("number", "time"),
    "cover": ("time",),
    "moves": ("time", "number"),
}
WORDS_OF_TIME = 2


def add_draft(desk, things):
    """A deed with its minute that isn't written yet."""
    desk.drafts.append((things[0], things[1]))
    return ok(len(desk.drafts))


def take_back(desk, things):
    """The last draft is gone."""
    check_drafts(desk)
    desk.drafts.pop()
    return ok(len(desk.drafts))


def write_drafts(desk, things):
    """All drafts are written, or none."""
    check_drafts(desk)
    room = desk.room.twin()
    for at, deed in desk.drafts:
        room.write(things[0], at, deed)
    desk.room = room
    desk.drafts = []
    return ok(len(room))


def put_right(desk, things):
    """A row that puts another one right is written."""
    number, written, at, deed = things
    return ok(desk.room.write(written, at, deed, number).number)


def tell_engine(desk, things):
    """What is told of an engine."""
    return tuple_text(desk.room.engine(things[0]))


def tell_call(desk, things):
    """What is told of a call."""
    return tuple_text(desk.room.call(things[0]))


def tell_calls(desk, things):
    """The open calls."""
    return list_text(desk.room.calls())


def tell_void(desk, things):
    """The void rows."""
    return list_text(desk.room.void())


def tell_book(desk, things):
    """The rows, a line each."""
    return show_book(desk.room.rows()) or "-"


def tell_lacking(desk, things):
    """What a call lacks."""
    return tuple_text(lacking(desk.room, things[0], things[1]))


def tell_nearest(desk, things):
    """The nearest engines for a call."""
    return list_text(nearest(desk.room, things[0], things[1]))


def tell_cover(desk, things):
    """The cover of each place."""
    return list_text(cover(desk.room, things[0]))


def tell_moves(desk, things):
    """The moves and the band."""
    filling, band = moves(desk.room, things[0], things[1])
    return f"{list_text(filling)};{list_text(band)}"


ANSWERS = {
    "draft": add_draft,
    "undo": take_back,
    "write": write_drafts,
    "right": put_right,
    "engine": tell_engine,
    "call": tell_call,
    "calls": tell_calls,
    "void": tell_void,
    "book": tell_book,
    "lacking": tell_lacking,
    "nearest": tell_nearest,
    "cover": tell_cover,
    "moves": tell_moves,
}


class Desk:
    """A room, and drafts: tuples (minute, deed) that aren't written yet."""

    def __init__(self, ground, engines):
        self.room = Room(ground, engines)
        self.drafts = []

    def say(self, row):
        """The answer to the row; NoSaying where it is none."""
        word, things = read_saying(row)
        answer = ANSWERS[word]
        return answer(self, things)


def read_saying(row):
    """A tuple of the row's word and the list of what it tells; else NoSaying."""
    if not isinstance(row, str):
        raise NoSaying("no text")
    words = row.split(" ")
    if words[0] not in SAYINGS:
        raise NoSaying("no such row")
    try:
        return words[0], read_things(SAYINGS[words[0]], words[1:])
    except NoText:
        raise NoSaying("no such row") from None


def read_things(sorts, words):
    """What the words tell, thing by thing; NoText where they don't."""
    things = []
    left = words
    for sort in sorts:
        many = word_count(sort, left)
        things.append(read_thing(sort, left[:many]))
        left = left[many:]
    if left:
        raise NoText("words too many")
    return things


def word_count(sort, words):
    """How many of the words make a thing of this sort."""
    if sort == "deed":
        return len(words)
    return WORDS_OF_TIME if sort == "time" else 1


def read_thing(sort, words):
    """The thing of this sort that the words write; else NoText."""
    if sort == "time":
        return read_minute(words)
    if sort == "deed":
        return read_deed(words)
    # Where no word is left, it is an empty one.
    word = " ".join(words)
    return read_name(word) if sort == "name" else read_number(word)


def check_drafts(desk):
    """Nothing where there is no draft."""
    if not desk.drafts:
        raise Nothing("no draft")


def ok(number):
    """The answer to what was done."""
    return f"ok {number}"


def list_text(things):
    """A list's things with blanks between."""
    return " ".join([tuple_text(thing) if isinstance(thing, tuple) else thing_text(thing) for thing in things]) or "-"


def tuple_text(things):
    """A tuple's things with commas between."""
    return ",".join([thing_text(thing) for thing in things])


def thing_text(thing):
    """A thing within a tuple or a list."""
    if thing is None:
        return "none"
    if thing is True:
        return "yes"
    if thing is False:
        return "no"
    if isinstance(thing, list):
        return "+".join([thing_text(part) for part in thing]) or "-"
    return str(thing)
