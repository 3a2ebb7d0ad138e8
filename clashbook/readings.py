"""Plain readings: each name is all or none, and so is each term."""

from clashbook.errors import TooMuch
from clashbook.terms import names_in

MOST_NAMES = 4


def worth(reading, t):
    return worth_by(dict(reading), t)


def worth_by(truths, t):
    if t[0] == "none":
        return False
    if t[0] == "all":
        return True
    if t[0] == "name":
        return truths[t[1]]
    parts = [worth_by(truths, part) for part in t[1:]]
    if t[0] == "not":
        return not parts[0]
    return all(parts) if t[0] == "both" else any(parts)


def holds_by(truths, saying):
    return not worth_by(truths, saying[0]) or worth_by(truths, saying[1])


def fits_by(truths, rule):
    return holds_by(truths, rule[1]) or not all([holds_by(truths, premise) for premise in rule[0]])


# Each name that is added changes fastest: so the first name changes last.
def readings_of(names):
    readings = [[]]
    for name in names:
        longer = []
        for reading in readings:
            longer.extend([reading + [(name, truth)] for truth in (False, True)])
        readings = longer
    return readings


def is_open_by(truths, book, saying):
    return not holds_by(truths, saying) and all([fits_by(truths, rule) for rule in book])


def first_open(book, saying):
    names = names_in(book, saying)
    if len(names) > MOST_NAMES:
        raise TooMuch("there are too many names")
    for reading in readings_of(names):
        if is_open_by(dict(reading), book, saying):
            return reading
    return None
