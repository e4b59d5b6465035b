"""How many asks a server may hold, and by how much it holds more."""


def cap_of(many, weight, whole, extra):
    top = many * weight * (100 + extra)
    bottom = 100 * whole
    # Rounded up in whole numbers alone.
    return (top + bottom - 1) // bottom


def caps_of(many, weights, extra):
    whole = sum(weights)
    return [cap_of(many, weight, whole, extra) for weight in weights]


def above(held, caps):
    return [max(number - cap, 0) for number, cap in zip(held, caps)]
