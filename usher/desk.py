"""A desk that does a hall's deeds by lines."""

from usher.choosing import DRAINS, HELD, NAME, WEIGHT, WORD, ZONE, row_for
from usher.errors import NoLine
from usher.halls import Hall
from usher.words import is_name, number_in

# What stands behind a line's first word.
FORMS = {
    "put": ("name", "name", "weight"),
    "weigh": ("name", "weight"),
    "drain": ("name",),
    "fill": ("name",),
    "out": ("name",),
    "good": ("name",),
    "bad": ("name",),
    "falls": ("name",),
    "ask": ("name", "name"),
    "end": ("name",),
    "evening": (),
    "where": ("name",),
    "servers": (),
    "row": ("name",),
    "log": ("number",),
}
LEAST_WEIGHT = 1
MOST_WEIGHT = 20
MOST_NUMBER = 1000000000
NONE = "-"


def thing_in(word, form):
    if form == "name":
        return word if is_name(word) else None
    if form == "weight":
        return number_in(word, LEAST_WEIGHT, MOST_WEIGHT)
    return number_in(word, 0, MOST_NUMBER)


def things_in(line):
    words = line.split(" ")
    forms = FORMS.get(words[0])
    if forms is None or len(words) != len(forms) + 1:
        raise NoLine(f"no such line: {line!r}")
    things = [thing_in(word, form) for word, form in zip(words[1:], forms)]
    if None in things:
        raise NoLine(f"no such line: {line!r}")
    return [words[0]] + things


def joined(things):
    return " ".join([str(thing) for thing in things])


def parted(texts, between):
    return between.join(texts) if len(texts) > 0 else NONE


def server_text(server):
    text = joined([server[NAME], server[ZONE], server[WEIGHT], server[WORD], server[HELD]])
    return text + " drains" if server[DRAINS] else text


class Desk:
    def __init__(self, size, rise, fall, extra):
        self.size = size
        self.hall = Hall(size, rise, fall, extra)

    def say(self, line):
        things = things_in(line)
        word = things[0]
        if word == "ask":
            return self.hall.ask(things[1], things[2])
        if word == "end":
            return self.hall.end(things[1])
        if word == "evening":
            return str(self.hall.evening())
        if word == "where":
            return self.where_text(things[1])
        if word == "servers":
            return parted([server_text(server) for server in self.hall.servers()], "; ")
        if word == "row":
            return parted(row_for(self.hall.servers(), things[1], self.size), " ")
        if word == "log":
            return self.log_text(things[1])
        self.do(things)
        return "ok"

    def do(self, things):
        word = things[0]
        name = things[1]
        if word == "put":
            self.hall.put(name, things[2], things[3])
        elif word == "weigh":
            self.hall.weigh(name, things[2])
        elif word == "drain":
            self.hall.drain(name)
        elif word == "fill":
            self.hall.fill(name)
        elif word == "out":
            self.hall.out(name)
        elif word == "falls":
            self.hall.zone_falls(name)
        else:
            self.hall.look(name, word == "good")

    def where_text(self, asker):
        name = self.hall.where(asker)
        return NONE if name is None else name

    def log_text(self, many):
        entries = self.hall.log()
        first = max(len(entries) - many, 0)
        return parted([joined(entry) for entry in entries[first:]], "; ")
