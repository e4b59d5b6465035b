"""How a server's health goes by looks."""

WELL = "well"
ILL = "ill"


def looked(health, good, rise, fall):
    word = health[0]
    row = health[1]
    if word == WELL:
        return stepped(WELL, ILL, row, not good, fall)
    return stepped(ILL, WELL, row, good, rise)


def stepped(word, other, row, against, enough):
    if not against:
        return (word, 0)
    if row + 1 >= enough:
        return (other, 0)
    return (word, row + 1)


def health_of(looks, rise, fall):
    health = (WELL, 0)
    for good in looks:
        health = looked(health, good, rise, fall)
    return health
