"""Texts of grounds, rows and books, and how they are read."""

from whistleboard.clock import FIGURES, read_time
from whistleboard.deeds import DEEDS, has_deeds_form
from whistleboard.errors import BadTime, NoGround, NoText
from whistleboard.ground import Ground
from whistleboard.rows import Row
from whistleboard.things import is_name

MOST_FIGURES = 10
# No room is asked whether a row can be: so its numbers may be greater than a room's.
MOST_IN_ROW = 999
NAMES_IN_DEED = ("place", "kind", "engine", "station")
# The words of a row ahead of its deed: its number, and two for each of its minutes.
WORDS_AHEAD = 5


def read_ground(text):
    """The ground of which the thing is the text; else NoText."""
    parts = {"place": [], "road": [], "station": []}
    for line in lines_of(text):
        words = line.split(" ")
        if words[0] not in parts:
            raise NoText("no row of a ground")
        parts[words[0]].append(ground_thing(words))
    ground = made_ground(tuple(parts["place"]), tuple(parts["road"]), tuple(parts["station"]))
    # Writing it anew finds rows that don't stand in order.
    if str(ground) != text:
        raise NoText("not the text of this ground")
    return ground


def ground_thing(words):
    """The place, road or station that the words write; whether the ground has such a one isn't asked."""
    if words[0] == "place" and len(words) == 3:
        return (words[1], read_number(words[2]))
    if words[0] == "road" and len(words) == 5:
        return (words[1], words[2], read_number(words[3]), read_number(words[4]))
    if words[0] == "station" and len(words) == 2:
        return words[1]
    raise NoText("no row of a ground")


def made_ground(places, roads, stations):
    """The ground of these; else NoText."""
    try:
        return Ground(places, roads, stations)
    except NoGround:
        raise NoText("no ground") from None


def read_row(text):
    """The row of which the thing is the text; else NoText."""
    check_text(text)
    words = text.split(" ")
    if len(words) <= WORDS_AHEAD or words[WORDS_AHEAD] not in DEEDS:
        raise NoText("no row")
    number = read_number_within(words[0], 1, MOST_IN_ROW)
    written = read_minute(words[1:3])
    at = read_minute(words[3:WORDS_AHEAD])
    behind = WORDS_AHEAD + 1 + len(DEEDS[words[WORDS_AHEAD]])
    deed = read_deed(words[WORDS_AHEAD:behind])
    return Row(number, written, at, deed, read_right(words[behind:]))


def read_right(words):
    """The number of the row that is put right, 0 where no words are left."""
    if not words:
        return 0
    if len(words) != 2 or words[0] != "right":
        raise NoText("no row")
    return read_number_within(words[1], 1, MOST_IN_ROW)


def show_book(rows):
    """The text of a list of rows."""
    return "\n".join([str(row) for row in rows])


def read_book(text):
    """The list of rows of which the thing is the text; else NoText."""
    if text == "":
        return []
    return [read_row(line) for line in lines_of(text)]


def read_deed(words):
    """The deed that the words write; else NoText."""
    if not has_deeds_form(tuple(words)):
        raise NoText("no deed")
    things = [words[0]]
    for sort, word in zip(DEEDS[words[0]], words[1:]):
        things.append(read_name(word) if sort in NAMES_IN_DEED else read_number_within(word, 0, MOST_IN_ROW))
    return tuple(things)


def read_name(word):
    """The name that the word is; else NoText."""
    if not is_name(word):
        raise NoText("no name")
    return word


def read_minute(words):
    """The minute that the words write; else NoText."""
    try:
        return read_time(" ".join(words))
    except BadTime:
        raise NoText("no minute") from None


def read_number_within(word, least, most):
    """The number from least to most that the word writes; else NoText."""
    number = read_number(word)
    if not least <= number <= most:
        raise NoText("a number beyond its bounds")
    return number


def read_number(word):
    """The number that the word writes in plain figures, no 0 ahead; else NoText."""
    if not 1 <= len(word) <= MOST_FIGURES or not all([sign in FIGURES for sign in word]):
        raise NoText("no number")
    if word[0] == "0" and word != "0":
        raise NoText("a number with a 0 ahead")
    return int(word)


def lines_of(text):
    """The lines of a text; NoText of a thing that is none."""
    check_text(text)
    return text.split("\n")


def check_text(thing):
    """NoText where the thing is no text."""
    if not isinstance(thing, str):
        raise NoText("no text")
