"""Calls: what is due to one, and the text by which it is told."""

from whistleboard.errors import BadText, NoKind
from whistleboard.ground import MOST_RISK
from whistleboard.things import is_name, is_whole_within

# Pumps, ladders and tankers.
DUE = {
    "car": (1, 0, 0),
    "chimney": (1, 0, 0),
    "grass": (1, 0, 1),
    "house": (2, 1, 0),
    "people": (1, 1, 0),
    "works": (3, 1, 1),
}
# At places of this risk a pump more is due.
RISK_OF_ONE_MORE = 1
MOST_PUMPS = 20
WORDS_WITHOUT_NUMBER = 3
WORDS_WITH_NUMBER = 5


def is_kind(thing):
    """Whether the thing is a kind of call."""
    # Only texts may be looked up: a list can't be.
    return isinstance(thing, str) and thing in DUE


def attendance(kind, risk, asked=0):
    """A tuple (pumps, ladders, tankers): what is due to a call."""
    if not is_kind(kind):
        raise NoKind(kind)
    if not is_whole_within(risk, 1, MOST_RISK):
        raise NoKind(None)
    pumps, ladders, tankers = DUE[kind]
    if risk == RISK_OF_ONE_MORE:
        pumps += 1
    return max(pumps, asked), ladders, tankers


def read_call(text):
    """A tuple (kind, place, number) out of a call's text, the number 0 where none is told; else BadText."""
    if not isinstance(text, str):
        raise BadText(-1)
    words = [word.lower() for word in text.split(" ") if word]
    for at, word in enumerate(words):
        if not is_word_at(at, word):
            raise BadText(at)
    if len(words) == WORDS_WITHOUT_NUMBER:
        return words[0], words[2], 0
    if len(words) == WORDS_WITH_NUMBER:
        return words[0], words[2], int(words[4])
    raise BadText(len(words))


def is_word_at(at, word):
    """Whether the word may stand at this place of a call's text."""
    if at == 0:
        return is_kind(word)
    if at == 1:
        return word == "at"
    if at == 2:
        return is_name(word)
    if at == 3:
        return word == "make"
    return at == 4 and is_pumps_text(word)


def is_pumps_text(word):
    """Whether the word is a number of pumps in plain figures."""
    # A word may have more figures than Python reads as a number: so the numbers are shown instead.
    return word in [str(number) for number in range(1, MOST_PUMPS + 1)]
