"""What a log sums to, and the first entry of one that can not be."""

from usher.choosing import DRAINS, WORD, is_live
from usher.looks import ILL, WELL
from usher.standing import Standing, is_of_asks


def summed(log):
    standing = Standing()
    for entry in log:
        standing.write(entry)
    return (standing.told(), dict(standing.opened))


def first_wrong(log):
    standing = Standing()
    for place, entry in enumerate(log):
        if not can_be(standing, entry):
            return place
        standing.write(entry)
    return None


def can_be(standing, entry):
    if is_of_asks(entry):
        return ask_can_be(standing, entry)
    return server_can_be(standing.known.get(entry[1]), entry[0])


def server_can_be(server, word):
    if word == "put":
        return server is None
    if server is None:
        return False
    if word in ("drain", "fill"):
        return server[DRAINS] == (word == "fill")
    if word in (WELL, ILL):
        return server[WORD] != word
    return True


def ask_can_be(standing, entry):
    word = entry[0]
    at = standing.opened.get(entry[1])
    if word == "open":
        return at is None and stands_live(standing, entry[2])
    if at != entry[2]:
        return False
    if word == "moved":
        return entry[3] != at and stands_live(standing, entry[3])
    return True


def stands_live(standing, name):
    server = standing.known.get(name)
    return server is not None and is_live(server)
