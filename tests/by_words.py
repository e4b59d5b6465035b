"""A hall by the words of the document, plain and slow, for the tests to hold the program against.

It draws nothing from the program but the refusals, and reckons with fractions and whole lists.
"""

import math
from fractions import Fraction

from usher.errors import NoLine, NoRoom, NoServer, Twice, Unknown, UsherError

SIGNS = "abcdefghijklmnopqrstuvwxyz0123456789"


def spot(name, turn, size):
    h = turn + 1
    for sign in name:
        h = (h * 69621 + SIGNS.index(sign) + 1) % 2147483647
    return h * 48271 % 2147483647 % size


def row(servers, asker, size):
    # Each name by the first of its marks that is met: those not below the asker's spot, then those ahead of it.
    start = spot(asker, 0, size)
    met = {}
    for name, zone, weight, word, drains, held in servers:
        spots = [spot(name, turn, size) for turn in range(weight)]
        met[name] = min([(place < start, place, name) for place in spots])
    return sorted(met, key=met.get)


def live(servers):
    return [server for server in servers if server[3] == "well" and server[4] is False]


def caps(many, weights, extra):
    return [math.ceil(Fraction(many * weight * (100 + extra), 100 * sum(weights))) for weight in weights]


def free(servers, extra):
    able = live(servers)
    many = sum([server[5] for server in able]) + 1
    most = caps(many, [server[2] for server in able], extra)
    return [server[0] for server, cap in zip(able, most) if server[5] < cap]


def chosen(servers, asker, zone, size, extra):
    names = free(servers, extra)
    near = [server[0] for server in servers if server[0] in names and server[1] == zone]
    can_be = near or names
    loads = {server[0]: Fraction(server[5], server[2]) for server in servers}
    looked_at = [name for name in row(servers, asker, size) if name in can_be][:2]
    # The least load; of like ones min tells the first.
    return min(looked_at, key=loads.get, default=None)


def dealt(held, weights, most, many):
    # The least load of those below their cap, of like ones the first place.
    numbers = list(held)
    places = []
    for turn in range(many):
        below = [place for place in range(len(numbers)) if numbers[place] < most[place]]
        places.append(min(below, key=lambda place: (Fraction(numbers[place] + 1, weights[place]), place)))
        numbers[places[-1]] += 1
    return places


def least_height(held, weights, most, many):
    # The least load up to which the places have room for so many.
    if many == 0:
        return Fraction(0)
    loads = set()
    for number, weight, cap in zip(held, weights, most):
        loads.update([Fraction(told, weight) for told in range(number + 1, cap + 1)])
    for load in sorted(loads):
        tops = [min(cap, math.floor(load * weight)) for weight, cap in zip(weights, most)]
        if sum([max(top - number, 0) for number, top in zip(held, tops)]) >= many:
            return load
    return None


class WordsHall:
    def __init__(self, size, rise, fall, extra):
        self.size, self.rise, self.fall, self.extra = size, rise, fall, extra
        self.stand = []
        self.asking = []
        self.lasts = {}
        self.entries = []
        self.puts = 0

    def find(self, name):
        for server in self.stand:
            if server["name"] == name:
                return server
        raise Unknown(name)

    def put(self, name, zone, weight):
        if name in [server["name"] for server in self.stand]:
            raise Twice(name)
        self.puts += 1
        self.stand.append({"name": name, "zone": zone, "weight": weight, "word": "well", "row": 0,
                           "drains": False, "nth": self.puts})
        self.entries.append(("put", name, zone, weight))

    def weigh(self, name, weight):
        self.find(name)["weight"] = weight
        self.entries.append(("weigh", name, weight))

    def drain(self, name):
        server = self.find(name)
        if server["drains"] is False:
            server["drains"] = True
            self.entries.append(("drain", name))

    def fill(self, name):
        server = self.find(name)
        if server["drains"] is True:
            server["drains"] = False
            self.entries.append(("fill", name))

    def out(self, name):
        self.stand.remove(self.find(name))
        self.entries.append(("out", name))
        self.move([asker for asker, at in self.asking if at == name])

    def look(self, name, good):
        server = self.find(name)
        against = good if server["word"] == "ill" else not good
        server["row"] = server["row"] + 1 if against else 0
        if server["row"] == (self.rise if server["word"] == "ill" else self.fall):
            server["row"] = 0
            server["word"] = "well" if server["word"] == "ill" else "ill"
            self.entries.append((server["word"], name))
            if server["word"] == "ill":
                self.move([asker for asker, at in self.asking if at == name])

    def zone_falls(self, zone):
        there = [server for server in self.stand if server["zone"] == zone]
        if not there:
            raise Unknown(zone)
        fell = [server for server in there if server["word"] == "well"]
        for server in fell:
            server["word"], server["row"] = "ill", 0
            self.entries.append(("ill", server["name"]))
        names = [server["name"] for server in fell]
        self.move([asker for asker, at in self.asking if at in names])

    def ask(self, asker, zone):
        if self.where(asker) is not None:
            raise Twice(asker)
        if not live(self.servers()):
            raise NoServer(asker)
        # The server is known by the how manieth it was put in, as a name may come anew.
        last = [server["name"] for server in self.stand if server["nth"] == self.lasts.get(asker)]
        if last and last[0] in free(self.servers(), self.extra):
            name = last[0]
        else:
            name = chosen(self.servers(), asker, zone, self.size, self.extra)
        self.asking.append([asker, name])
        self.entries.append(("open", asker, name))
        return name

    def end(self, asker):
        name = self.where(asker)
        if name is None:
            raise Unknown(asker)
        self.asking.remove([asker, name])
        self.lasts[asker] = self.find(name)["nth"]
        self.entries.append(("end", asker, name))
        return name

    def evening(self):
        able = live(self.servers())
        many = sum([server[5] for server in able])
        moving = []
        for server, cap in zip(able, caps(many, [server[2] for server in able], self.extra)):
            there = [asker for asker, at in self.asking if at == server[0]]
            moving += there[cap:]
        self.move(moving)
        return len(moving)

    def move(self, moving):
        moving = [asker for asker, at in self.asking if asker in moving]
        able = live(self.servers())
        if not able:
            for asker in moving:
                self.entries.append(("lost", asker, self.where(asker)))
                self.asking.remove([asker, self.where(asker)])
                self.lasts[asker] = None
            return
        weights = [server[2] for server in able]
        staying = [at for asker, at in self.asking if asker not in moving]
        held = [staying.count(server[0]) for server in able]
        places = dealt(held, weights, caps(sum(held) + len(moving), weights, self.extra), len(moving))
        for asker, place in zip(moving, places):
            for ask in self.asking:
                if ask[0] == asker:
                    self.entries.append(("moved", asker, ask[1], able[place][0]))
                    ask[1] = able[place][0]

    def servers(self):
        held = [at for asker, at in self.asking]
        return [(server["name"], server["zone"], server["weight"], server["word"], server["drains"],
                 held.count(server["name"])) for server in self.stand]

    def health(self, name):
        server = self.find(name)
        return (server["word"], server["row"])

    def where(self, asker):
        for other, at in self.asking:
            if other == asker:
                return at
        return None

    def asks(self):
        return [(asker, at) for asker, at in self.asking]

    def log(self):
        return list(self.entries)


def do(hall, deed):
    # A deed is a tuple: the method's name, then what is handed in.
    return getattr(hall, deed[0])(*deed[1:])


def answer(hall, deed):
    # What a deed tells, or the class with which it is refused.
    try:
        return do(hall, deed)
    except ValueError as error:
        return type(error)


def check_refusal(case, refusal, hall, deed):
    with case.assertRaises(refusal) as caught:
        do(hall, deed)
    case.assertIs(type(caught.exception), refusal)
    case.assertIsInstance(caught.exception, UsherError)
    case.assertIsInstance(caught.exception, ValueError)
    for other in (Twice, Unknown, NoServer, NoRoom, NoLine):
        if other is not refusal:
            case.assertNotIsInstance(caught.exception, other)


def all_told(hall):
    servers = hall.servers()
    healths = [hall.health(server[0]) for server in servers]
    return (servers, healths, hall.asks(), hall.log())
