"""The state of a room: its engines, its calls and its shut roads, and how a deed changes it."""

# At which place of a deed the call stands that has to be open.
CALL_PLACES = {"again": 1, "make": 1, "stop": 1, "send": 2}
# As what the engine has to be told for a deed.
WORDS_NEEDED = {
    "send": ("home", "back"),
    "there": ("sent",),
    "back": ("sent", "there"),
    "home": ("back",),
    "off": ("home",),
    "on": ("off",),
    "stand": ("home",),
    "lend": ("home",),
}


class State:
    """What is so at a minute: each engine, each call that was told, and the roads that are shut."""

    def __init__(self, engines):
        # Word, place, own station, call.
        self.engine_states = {name: ("home", station, station, 0) for name, sort, station, seats in engines}
        # Place, kind, minute, pumps asked for, whether it is open.
        self.call_states = {}
        self.shut_roads = {}

    def is_open(self, number):
        """Whether there is an open call of this number."""
        return number in self.call_states and self.call_states[number][4]

    def open_calls(self):
        """The numbers of the open calls, rising."""
        return [number for number in sorted(self.call_states) if self.is_open(number)]

    def under(self, number):
        """The engines under the call, by name."""
        return [name for name in sorted(self.engine_states) if self.engine_states[name][3] == number]

    def why_not(self, deed):
        """Why the deed can't be done: call, engine, station or road; None where it can be."""
        word = deed[0]
        if word in CALL_PLACES and not self.is_open(deed[CALL_PLACES[word]]):
            return "call"
        if word in WORDS_NEEDED and not self.is_engine_ready(word, deed[1]):
            return "engine"
        if word in ("stand", "lend") and self.engine_states[deed[1]][1] == deed[2]:
            return "station"
        if word == "shut" and deed[1] in self.shut_roads:
            return "road"
        if word == "clear" and deed[1] not in self.shut_roads:
            return "road"
        return None

    def is_engine_ready(self, word, name):
        """Whether the engine is in such a state that the deed of this word can be done."""
        told, place, own, call = self.engine_states[name]
        return told in WORDS_NEEDED[word] and (word != "lend" or place == own)

    def do(self, deed, minute, number):
        """Do a deed that can be done; the minute and the number are those of a call that comes by it."""
        word = deed[0]
        if word == "call":
            self.call_states[number] = (deed[1], deed[2], minute, 0, True)
        elif word == "make":
            place, kind, told, asked, stays_open = self.call_states[deed[1]]
            self.call_states[deed[1]] = (place, kind, told, deed[2], stays_open)
        elif word == "stop":
            self.stop(deed[1])
        elif word == "shut":
            self.shut_roads[deed[1]] = True
        elif word == "clear":
            del self.shut_roads[deed[1]]
        elif word in WORDS_NEEDED:
            self.engine_states[deed[1]] = self.engine_behind(deed)

    def stop(self, number):
        """The call is open no more, and its engines turn back."""
        place, kind, told, asked, was_open = self.call_states[number]
        self.call_states[number] = (place, kind, told, asked, False)
        for name in self.under(number):
            self.engine_states[name] = self.engine_behind(("back", name))

    def engine_behind(self, deed):
        """What is told of the deed's engine once the deed is done."""
        word = deed[0]
        told, place, own, call = self.engine_states[deed[1]]
        if word == "send":
            return ("sent", place, own, deed[2])
        if word == "there":
            return ("there", self.call_states[call][0], own, call)
        if word == "home":
            return ("home", own, own, 0)
        if word == "stand":
            return ("home", deed[2], own, 0)
        if word == "lend":
            return ("home", deed[2], deed[2], 0)
        # Only the word is another one: back, off, or, behind on, home.
        return ("home" if word == "on" else word, place, own, 0)
