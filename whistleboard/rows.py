"""The rows of the book."""

from whistleboard.clock import shown
from whistleboard.things import is_whole


class Row:
    """A deed with its number, when it was written, of when it speaks, and which row it puts right."""

    def __init__(self, number, written, at, deed, right=0):
        self.number = number
        self.written = written
        self.at = at
        self.deed = deed
        self.right = right

    def __eq__(self, other):
        return (
            isinstance(other, Row)
            and self.number == other.number
            and self.written == other.written
            and self.at == other.at
            and self.deed == other.deed
            and self.right == other.right
        )

    def __repr__(self):
        return f"Row({self.number})"

    def __str__(self):
        return " ".join(row_words(self))


def row_words(row):
    """The words of a row's text."""
    times = [time_text(row.written), time_text(row.at)]
    right = ["right", str(row.right)] if row.right != 0 else []
    return [str(row.number)] + times + deed_words(row.deed) + right


# A row may hold any things: those that can't be written as told are shown as they are.


def time_text(thing):
    """The text of a minute."""
    return shown(thing) if is_whole(thing) else str(thing)


def deed_words(thing):
    """The words of a deed."""
    return [str(word) for word in thing] if isinstance(thing, tuple) else [str(thing)]
