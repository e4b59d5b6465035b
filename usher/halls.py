"""A hall: servers put in and out, askers led to them, and moved only where they must be."""

from usher.caps import above, caps_of
from usher.choosing import DRAINS, HELD, NAME, WEIGHT, WORD, ZONE, chosen, free, is_live
from usher.dealing import dealt
from usher.errors import NoServer, Twice, Unknown
from usher.looks import ILL, WELL, looked
from usher.standing import Standing


class Hall:
    def __init__(self, size, rise, fall, extra):
        self.size = size
        self.rise = rise
        self.fall = fall
        self.extra = extra
        self.standing = Standing()
        self.entries = []
        # A health's row is kept here: most looks write no entry.
        self.rows = {}
        # From an asker without an ask to where its last one ended, while that server stands.
        self.ended = {}

    def put(self, name, zone, weight):
        if name in self.standing.known:
            raise Twice(f"a server {name} stands already")
        self.rows[name] = 0
        self.write(("put", name, zone, weight))

    def weigh(self, name, weight):
        self.found(name)
        self.write(("weigh", name, weight))

    def drain(self, name):
        if not self.found(name)[DRAINS]:
            self.write(("drain", name))

    def fill(self, name):
        if self.found(name)[DRAINS]:
            self.write(("fill", name))

    def out(self, name):
        self.found(name)
        self.write(("out", name))
        self.rows.pop(name)
        # A server put in anew under this name is another one.
        for asker in list(self.ended):
            if self.ended[asker] == name:
                self.ended.pop(asker)
        self.move(self.askers_at([name]))

    def look(self, name, good):
        was = self.health(name)
        now = looked(was, good, self.rise, self.fall)
        self.rows[name] = now[1]
        if now[0] == was[0]:
            return
        self.write((now[0], name))
        if now[0] == ILL:
            self.move(self.askers_at([name]))

    def zone_falls(self, zone):
        there = [server for server in self.servers() if server[ZONE] == zone]
        if len(there) == 0:
            raise Unknown(f"no server is of the zone {zone}")
        falling = [server[NAME] for server in there if server[WORD] == WELL]
        for name in falling:
            self.rows[name] = 0
            self.write((ILL, name))
        # Together, so that none is dealt to a server that falls with its own.
        self.move(self.askers_at(falling))

    def ask(self, asker, zone):
        if asker in self.standing.opened:
            raise Twice(f"an ask of {asker} stands already")
        servers = self.servers()
        names = free(servers, self.extra)
        # Where one is live, one is free.
        if len(names) == 0:
            raise NoServer("no server is live")
        name = self.ended.get(asker)
        if name not in names:
            name = chosen(servers, asker, zone, self.size, self.extra)
        # Taken away here, so an asker whose ask is lost was nowhere.
        self.ended.pop(asker, None)
        self.write(("open", asker, name))
        return name

    def end(self, asker):
        name = self.where(asker)
        if name is None:
            raise Unknown(f"no ask of {asker} stands")
        self.write(("end", asker, name))
        self.ended[asker] = name
        return name

    def evening(self):
        live = self.live()
        held = [server[HELD] for server in live]
        caps = caps_of(sum(held), [server[WEIGHT] for server in live], self.extra)
        taken = {}
        for server, more in zip(live, above(held, caps)):
            askers = self.askers_at([server[NAME]])
            for asker in askers[len(askers) - more:]:
                taken[asker] = True
        moving = [asker for asker in self.standing.opened if asker in taken]
        self.move(moving)
        return len(moving)

    def servers(self):
        return self.standing.told()

    def health(self, name):
        return (self.found(name)[WORD], self.rows[name])

    def where(self, asker):
        return self.standing.opened.get(asker)

    def asks(self):
        return list(self.standing.opened.items())

    def log(self):
        return list(self.entries)

    def write(self, entry):
        self.entries.append(entry)
        self.standing.write(entry)

    def found(self, name):
        if name not in self.standing.known:
            raise Unknown(f"no server {name} stands")
        return self.standing.known[name]

    def live(self):
        return [server for server in self.servers() if is_live(server)]

    def askers_at(self, names):
        return [asker for asker, name in self.standing.opened.items() if name in names]

    def move(self, askers):
        live = self.live()
        if len(live) == 0:
            self.lose(askers)
            return
        weights = [server[WEIGHT] for server in live]
        held = [self.staying_at(server[NAME], askers) for server in live]
        caps = caps_of(sum(held) + len(askers), weights, self.extra)
        places = dealt(held, weights, caps, len(askers))
        for asker, place in zip(askers, places):
            self.write(("moved", asker, self.where(asker), live[place][NAME]))

    def lose(self, askers):
        for asker in askers:
            self.write(("lost", asker, self.where(asker)))

    def staying_at(self, name, moving):
        return len([asker for asker in self.askers_at([name]) if asker not in moving])
