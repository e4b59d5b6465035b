"""Whom an asker comes to: servers that are live, those of them that are free, and the one that is chosen."""

from usher.caps import caps_of
from usher.dealing import is_lighter
from usher.looks import WELL
from usher.rings import marks_of, row_from
from usher.spots import spot_of

# The places in a server's tuple.
NAME = 0
ZONE = 1
WEIGHT = 2
WORD = 3
DRAINS = 4
HELD = 5


def is_live(server):
    return server[WORD] == WELL and not server[DRAINS]


def free_ones(servers, extra):
    live = [server for server in servers if is_live(server)]
    many = sum([server[HELD] for server in live]) + 1
    caps = caps_of(many, [server[WEIGHT] for server in live], extra)
    return [server for server, cap in zip(live, caps) if server[HELD] < cap]


def free(servers, extra):
    return [server[NAME] for server in free_ones(servers, extra)]


def choice_for(servers, zone, extra):
    anywhere = free_ones(servers, extra)
    near = [server for server in anywhere if server[ZONE] == zone]
    return near if len(near) > 0 else anywhere


def row_for(servers, asker, size):
    marks = marks_of([(server[NAME], server[WEIGHT]) for server in servers], size)
    return row_from(marks, spot_of(asker, 0, size))


def chosen(servers, asker, zone, size, extra):
    by_name = {}
    for server in choice_for(servers, zone, extra):
        by_name[server[NAME]] = server
    met = [by_name[name] for name in row_for(servers, asker, size) if name in by_name]
    if len(met) == 0:
        return None
    first = met[0]
    if len(met) == 1:
        return first[NAME]
    second = met[1]
    if is_lighter(second[HELD], second[WEIGHT], first[HELD], first[WEIGHT]):
        return second[NAME]
    return first[NAME]
