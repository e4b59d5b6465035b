"""Servers' marks on a ring, the row from a spot on, and how much of the ring falls to each."""

from usher.spots import spot_of


def marks_of(servers, size):
    marks = []
    for name, weight in servers:
        for turn in range(weight):
            marks.append((spot_of(name, turn, size), name))
    return sorted(marks)


def row_from(marks, spot):
    not_below = [mark for mark in marks if mark[0] >= spot]
    ahead = [mark for mark in marks if mark[0] < spot]
    # A dict keeps each name once, where it was met first.
    met = {}
    for mark in not_below + ahead:
        met[mark[1]] = True
    return list(met)


def lengths(marks, size):
    # Reckoned from mark to mark: a ring may have far too many spots to go through.
    found = {}
    begin = 0
    for spot, name in marks:
        end = min(spot + 1, size)
        found[name] = found.get(name, 0) + end - begin
        begin = end
    if len(marks) > 0:
        # Behind the last mark the row begins with the first one again.
        first = marks[0][1]
        found[first] = found[first] + size - begin
    return found
