"""Lines of hoses and pumps, from the water to the nozzles."""

from whistleboard.errors import NoFlow, NoJoin, NoLine
from whistleboard.things import is_tuple_within, is_whole_within

# Beside each word the bounds of its numbers.
SOURCES = (
    ("hydrant", ((0, 150), (1, 5000))),
    ("pond", ((0, 8),)),
)
JOINS = (
    ("hose", ((1, 20), (-60, 60))),
    ("pump", ((0, 120), (1, 5000))),
    ("leak", ((0, 1000),)),
    ("nozzle", ((0, 2000), (0, 100))),
)
MOST_PARTS = 8
MOST_FORKS = 3
WHOLE_SHARE = 100
LEAST_IN_HOSE = -70
MOST_BEHIND_PUMP = 120
HOSE_DIVISOR = 40000


class Line:
    """A source, and the parts through which its water goes."""

    def __init__(self, source, parts):
        if not is_among(SOURCES, source):
            raise NoLine(0)
        if not is_tuple_within(parts, 1, MOST_PARTS):
            raise NoLine(1)
        for at, part in enumerate(parts):
            if not is_part(part, at + 1 == len(parts), MOST_FORKS):
                raise NoLine(at + 2)
        self.source = source
        self.parts = parts

    def __eq__(self, other):
        return isinstance(other, Line) and self.source == other.source and self.parts == other.parts

    def __len__(self):
        return len(joins_of(self.parts))

    def __repr__(self):
        return f"Line({len(joins_of(self.parts))})"

    def pressures(self, share=100):
        """The pressure behind each join; NoFlow where one fails."""
        if self.source[0] == "hydrant" and taken(self.parts, share) > self.source[2]:
            raise NoFlow(0, "flow")
        pressure = self.source[1] if self.source[0] == "hydrant" else -self.source[1]
        return walked(self.parts, pressure, share, 0)

    def greatest(self):
        """The greatest share with which nothing fails, None without any."""
        for share in range(WHOLE_SHARE, -1, -1):
            if self.holds(share):
                return share
        return None

    def without(self, join):
        """A new line without a join that is a hose, a pump or a leak."""
        joins = joins_of(self.parts)
        if not is_whole_within(join, 1, len(joins)) or joins[join - 1][0] == "nozzle":
            raise NoJoin(join)
        return Line(self.source, parts_without(self.parts, join))

    def holds(self, share):
        """Whether nothing fails with this share."""
        try:
            self.pressures(share)
        except NoFlow:
            return False
        return True


def is_among(sorts, thing):
    """Whether the thing is a tuple of one of the sorts' words and numbers within the bounds of this word."""
    if not isinstance(thing, tuple) or len(thing) == 0:
        return False
    for word, bounds in sorts:
        if thing[0] == word:
            return are_within(bounds, thing[1:])
    return False


def are_within(bounds, numbers):
    """Whether the things are as many whole numbers as there are bounds, each within its own."""
    if len(numbers) != len(bounds):
        return False
    return all([is_whole_within(number, least, most) for number, (least, most) in zip(numbers, bounds)])


def is_part(thing, is_last, forks):
    """Whether the thing is a part that may stand there, with at most so many forks within one another."""
    if is_tuple_within(thing, 3, 3) and thing[0] == "fork":
        return is_last and forks > 0 and are_parts(thing[1], forks - 1) and are_parts(thing[2], forks - 1)
    return is_among(JOINS, thing) and (thing[0] == "nozzle") == is_last


def are_parts(thing, forks):
    """Whether the thing is the parts of a fork, with at most so many forks within one another."""
    if not is_tuple_within(thing, 1, MOST_PARTS):
        return False
    return all([is_part(part, at + 1 == len(thing), forks) for at, part in enumerate(thing)])


def joins_of(parts):
    """The joins in the order of walking."""
    joins = []
    for part in parts:
        if part[0] == "fork":
            joins.extend(joins_of(part[1]) + joins_of(part[2]))
        else:
            joins.append(part)
    return joins


def taken(parts, share):
    """What the nozzles and leaks of the parts take together."""
    litres = 0
    for join in joins_of(parts):
        if join[0] == "nozzle":
            litres += join[1] * share // WHOLE_SHARE
        elif join[0] == "leak":
            litres += join[1]
    return litres


def walked(parts, pressure, share, passed):
    """The pressures behind the joins of the parts; so many joins are ahead of them."""
    told = []
    for at, part in enumerate(parts):
        if part[0] == "fork":
            told.extend(walked(part[1], pressure, share, passed + len(told)))
            told.extend(walked(part[2], pressure, share, passed + len(told)))
        else:
            flow = taken(parts[at:], share)
            pressure = pressure_behind(part, pressure, flow)
            why = why_failing(part, pressure, flow)
            if why is not None:
                raise NoFlow(passed + len(told) + 1, why)
            told.append(pressure)
    return told


def pressure_behind(join, pressure, flow):
    """The pressure behind a join to which this one comes, with this flow."""
    if join[0] == "hose":
        return pressure - join[1] * flow * flow // HOSE_DIVISOR - join[2]
    if join[0] == "pump":
        return min(MOST_BEHIND_PUMP, pressure + join[1])
    return pressure


def why_failing(join, pressure, flow):
    """Why the join fails with this pressure behind it and this flow: dry, flow or weak; None where it doesn't."""
    if join[0] == "hose" and pressure < LEAST_IN_HOSE:
        return "dry"
    if join[0] == "pump" and flow > join[2]:
        return "flow"
    if join[0] == "nozzle" and pressure < join[2]:
        return "weak"
    return None


def parts_without(parts, join):
    """The parts without the join of this number; where there is none, all of them."""
    kept = []
    passed = 0
    for part in parts:
        if part[0] == "fork":
            first = parts_without(part[1], join - passed)
            second = parts_without(part[2], join - passed - len(joins_of(part[1])))
            kept.append(("fork", first, second))
        else:
            passed += 1
            if passed != join:
                kept.append(part)
    return tuple(kept)
