"""What stands, servers and asks, changed by a log's entries alone.

The hall and the sums of its log go by this one place, so they can not come apart.
"""

from usher.choosing import DRAINS, WEIGHT, WORD
from usher.looks import ILL, WELL

ASK_WORDS = ("open", "end", "moved", "lost")


def is_of_asks(entry):
    return entry[0] in ASK_WORDS


def changed(server, place, thing):
    return server[:place] + (thing,) + server[place + 1:]


def behind_entry(server, entry):
    word = entry[0]
    if word == "weigh":
        return changed(server, WEIGHT, entry[2])
    if word in (WELL, ILL):
        return changed(server, WORD, word)
    return changed(server, DRAINS, word == "drain")


class Standing:
    def __init__(self):
        # Each server's tuple without held, which is counted from the asks; a dict keeps the order of putting in.
        self.known = {}
        # From asker to server's name, in the order of opening: a name given anew keeps its place.
        self.opened = {}

    def write(self, entry):
        if is_of_asks(entry):
            self.write_ask(entry)
        else:
            self.write_server(entry)

    def write_ask(self, entry):
        asker = entry[1]
        if entry[0] == "open":
            self.opened[asker] = entry[2]
        elif entry[0] == "moved":
            self.opened[asker] = entry[3]
        else:
            self.opened.pop(asker)

    def write_server(self, entry):
        name = entry[1]
        if entry[0] == "put":
            self.known[name] = (name, entry[2], entry[3], WELL, False)
        elif entry[0] == "out":
            self.known.pop(name)
        else:
            self.known[name] = behind_entry(self.known[name], entry)

    def told(self):
        held = {}
        for name in self.opened.values():
            held[name] = held.get(name, 0) + 1
        return [server + (held.get(name, 0),) for name, server in self.known.items()]
