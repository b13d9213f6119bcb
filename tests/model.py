"""A second telling of points 13, 14 and 17, one small rule for each deed, by which the room is held."""


class CantBe(Exception):
    """A deed can't be done."""

    def __init__(self, why):
        Exception.__init__(self, why)
        self.why = why


def need(truth, why):
    if not truth:
        raise CantBe(why)


class Engine:

    def __init__(self, station):
        self.word = "home"
        self.where = station
        self.own = station
        self.call = None

    def turn_back(self):
        self.word = "back"
        self.call = None


class Call:

    def __init__(self, place, kind, minute):
        self.place = place
        self.kind = kind
        self.minute = minute
        self.pumps = 0
        self.running = True


class Model:
    """What the rows tell, as they stand in the book."""

    def __init__(self, engines, rows, at=None):
        self.engines = {engine[0]: Engine(engine[2]) for engine in engines}
        self.calls = {}
        self.blocked = set()
        self.void = []
        putting_right = {row.right: row for row in rows if row.right != 0}
        for minute in sorted({row.at for row in rows}):
            for row in rows:
                lives = row.number not in putting_right
                if lives and row.at == minute and (at is None or minute <= at):
                    self.play(row, rows)

    def play(self, row, rows):
        first = row
        while first.right != 0:
            first = rows[first.right - 1]
        try:
            self.do(row.deed, row.at, first.number)
        except CantBe as refusal:
            self.void.append((row.number, refusal.why))

    def do(self, deed, minute, number):
        getattr(self, "do_" + deed[0])(*deed[1:], **({"told": (minute, number)} if deed[0] == "call" else {}))

    def running(self, number):
        need(number in self.calls and self.calls[number].running, "call")
        return self.calls[number]

    def engine_as(self, name, *words):
        need(self.engines[name].word in words, "engine")
        return self.engines[name]

    def do_call(self, place, kind, told):
        self.calls[told[1]] = Call(place, kind, told[0])

    def do_again(self, number):
        self.running(number)

    def do_make(self, number, pumps):
        self.running(number).pumps = pumps

    def do_stop(self, number):
        self.running(number).running = False
        for engine in self.engines.values():
            if engine.call == number:
                engine.turn_back()

    def do_send(self, name, number):
        self.running(number)
        engine = self.engine_as(name, "home", "back")
        engine.word = "sent"
        engine.call = number

    def do_there(self, name):
        engine = self.engine_as(name, "sent")
        engine.word = "there"
        engine.where = self.calls[engine.call].place

    def do_back(self, name):
        self.engine_as(name, "sent", "there").turn_back()

    def do_home(self, name):
        engine = self.engine_as(name, "back")
        engine.word = "home"
        engine.where = engine.own

    def do_off(self, name):
        self.engine_as(name, "home").word = "off"

    def do_on(self, name):
        self.engine_as(name, "off").word = "home"

    def do_stand(self, name, station):
        engine = self.engine_as(name, "home")
        need(engine.where != station, "station")
        engine.where = station

    def do_lend(self, name, station):
        engine = self.engine_as(name, "home")
        need(engine.where == engine.own, "engine")
        need(engine.where != station, "station")
        engine.where = station
        engine.own = station

    def do_shut(self, road):
        need(road not in self.blocked, "road")
        self.blocked.add(road)

    def do_clear(self, road):
        need(road in self.blocked, "road")
        self.blocked.remove(road)

    def do_nothing(self):
        pass

    def told_engine(self, name):
        engine = self.engines[name]
        return engine.word, engine.where, engine.own, engine.call or 0

    def told_call(self, number):
        call = self.calls[number]
        under = sorted([name for name, engine in self.engines.items() if engine.call == number])
        return call.place, call.kind, call.minute, call.pumps, call.running, under

    def told_calls(self):
        return sorted([number for number, call in self.calls.items() if call.running])

    def told_shut(self):
        return sorted(self.blocked)
