"""Asks dealt to places so that none comes to stand higher than it must."""

from usher.caps import above
from usher.errors import NoRoom


def is_lighter(a, v, b, w):
    # Multiplied crosswise, as a division would have to be rounded.
    return a * w < b * v


def room_in(held, caps):
    # Summed place by place: what one holds above its cap takes no room from another.
    return sum(above(caps, held))


def lightest_place(numbers, weights, caps):
    best = None
    for place, number in enumerate(numbers):
        if number >= caps[place]:
            continue
        if best is None or is_lighter(number + 1, weights[place], numbers[best] + 1, weights[best]):
            best = place
    return best


def dealt(held, weights, caps, many):
    if room_in(held, caps) < many:
        raise NoRoom(f"there is no room for {many}")
    numbers = list(held)
    places = []
    while len(places) < many:
        place = lightest_place(numbers, weights, caps)
        numbers[place] = numbers[place] + 1
        places.append(place)
    return places


def greatest_divisor(a, b):
    while b > 0:
        rest = a % b
        a = b
        b = rest
    return a


def height(held, weights, got):
    # Every place that got any is heavier than this, so it stays only where none did.
    top = 0
    bottom = 1
    for place, more in enumerate(got):
        number = held[place] + more
        if more > 0 and is_lighter(top, bottom, number, weights[place]):
            top = number
            bottom = weights[place]
    divisor = greatest_divisor(top, bottom)
    return (top // divisor, bottom // divisor)
