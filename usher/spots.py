"""Where a name stands on a ring."""

from usher.words import SIGNS

DIVISOR = 2147483647
SIGN_FACTOR = 69621
LAST_FACTOR = 48271


def spot_of(name, turn, size):
    h = turn + 1
    for sign in name:
        place = SIGNS.index(sign) + 1
        h = (h * SIGN_FACTOR + place) % DIVISOR
    h = h * LAST_FACTOR % DIVISOR
    return h % size
