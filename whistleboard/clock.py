"""The minutes of a watch and their texts."""

from whistleboard.errors import BadTime
from whistleboard.things import is_whole_within

LAST_MINUTE = 9999
MINUTES_OF_DAY = 1440
MINUTES_OF_HOUR = 60
FIGURES = "0123456789"
# A watch ends on day 6, so that the day has one figure.
TEXT_LENGTH = 7
FIGURE_PLACES = (0, 2, 3, 5, 6)


def is_minute(thing):
    """Whether the thing is a minute of the watch."""
    return is_whole_within(thing, 0, LAST_MINUTE)


def hour_of(minute):
    """The hour, 0 to 23, of the minute's day."""
    return minute % MINUTES_OF_DAY // MINUTES_OF_HOUR


def shown(minute):
    """The text of a minute, as 0 07:05."""
    day = minute // MINUTES_OF_DAY
    rest = minute % MINUTES_OF_HOUR
    return f"{day} {hour_of(minute):02d}:{rest:02d}"


def read_time(text):
    """The minute of which the thing is the text; else BadTime."""
    if not has_figures(text):
        raise BadTime("not the text of a minute")
    minute = int(text[0]) * MINUTES_OF_DAY + int(text[2:4]) * MINUTES_OF_HOUR + int(text[5:7])
    # Showing it anew finds the other signs, and hours and minutes beyond theirs.
    if minute > LAST_MINUTE or shown(minute) != text:
        raise BadTime("not the text of a minute of the watch")
    return minute


def has_figures(text):
    """Whether the thing is as long as a minute's text, with figures where it has them."""
    if not isinstance(text, str) or len(text) != TEXT_LENGTH:
        return False
    return all([text[place] in FIGURES for place in FIGURE_PLACES])
