"""Teams who are in with cylinders, and how long these last."""

# Litres a minute.
USES = {"rest": 30, "work": 45, "hard": 70}
WORK_UNKNOWN = "hard"


class Wearer:
    """One who went in with a cylinder, and what was last told of it."""

    def __init__(self, minute, bar, litres):
        self.litres = litres
        # When and how much was told last: by a gauge, or at going in.
        self.gauged = minute
        self.bar = bar
        self.is_in = True
        self.is_lost = False
        self.is_dead = False

    def left_at(self, minute, works):
        """The litres left at a minute, below 0 where the cylinder doesn't last so long."""
        # Of a dead gauge nobody knows: so the hardest work is reckoned since the last one told.
        known = [(self.gauged, WORK_UNKNOWN)] if self.is_dead else works
        return self.bar * self.litres - litres_used(known, self.gauged, minute)

    def whistle_at(self, works, reserve):
        """The greatest minute at which the reserve is left, at least that of the last gauge."""
        minute = self.gauged
        while self.left_at(minute + 1, works) >= reserve * self.litres:
            minute += 1
        return minute


class Team:
    """Those who went in together, by one door."""

    def __init__(self, minute, door, work, wearers):
        self.door = door
        # Tuples (minute from which on, work), in the order in which they were told.
        self.works_told = [(minute, work)]
        self.wearers = {name: Wearer(minute, bar, litres) for name, bar, litres in wearers}

    def names_in(self):
        """The names of those who are in, as they went in."""
        return [name for name in self.wearers if self.wearers[name].is_in]

    def litres_of(self, name, minute):
        """The litres that the wearer has at a minute."""
        return max(0, self.wearers[name].left_at(minute, self.works_told))

    def first_whistle(self, reserve):
        """The first whistle of those who are in, None without any."""
        times = [self.wearers[name].whistle_at(self.works_told, reserve) for name in self.names_in()]
        return min(times, default=None)


def litres_used(works, start, end):
    """The litres used from the start to the minute ahead of the end, by the work told last at each minute."""
    litres = 0
    until = end
    for told, work in reversed(works):
        since = max(told, start)
        if since < until:
            litres += (until - since) * USES[work]
            until = since
    return litres
