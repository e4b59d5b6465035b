"""Names and written numbers."""

# A sign's place in this text counts in spots, so its order is part of the promise.
SIGNS = "abcdefghijklmnopqrstuvwxyz0123456789"
FIGURES = "0123456789"
LONGEST_NAME = 8
LONGEST_NUMBER = 9


def is_name(text):
    if len(text) < 1 or len(text) > LONGEST_NAME:
        return False
    if text[0] in FIGURES:
        return False
    return all([sign in SIGNS for sign in text])


def is_number(text):
    if len(text) < 1 or len(text) > LONGEST_NUMBER:
        return False
    if text[0] == "0" and len(text) > 1:
        return False
    # Not isdigit, which also takes figures of other scripts.
    return all([sign in FIGURES for sign in text])


def number_in(text, least, most):
    # int by itself would take blanks, a sign ahead and noughts ahead.
    if not is_number(text):
        return None
    number = int(text)
    if number < least or number > most:
        return None
    return number
