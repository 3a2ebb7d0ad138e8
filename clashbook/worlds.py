"""The world of a closing: what has no line there does not hold in it."""


# A number that is under its own counter is worth nothing: it makes no spot.
def spots_by(many, pairs):
    return [n for n in range(many) if (n, n ^ 1) not in pairs]


def clashes_by(spots, pairs):
    clashes = []
    for a, i in enumerate(spots):
        clashes.extend([(a, b) for b, j in enumerate(spots) if a < b and (i, j ^ 1) in pairs])
    return clashes


def spots_under(spots, pairs, n):
    return [a for a, i in enumerate(spots) if (i, n) in pairs]


def world_of(sheet, lines):
    pairs = dict([((line[0], line[1]), True) for line in lines])
    if (1, 0) in pairs:
        return None
    spots = spots_by(2 * len(sheet), pairs)
    names = [(row[1], spots_under(spots, pairs, 2 * k)) for k, row in enumerate(sheet) if row[0] == "name"]
    return (len(spots), clashes_by(spots, pairs), sorted(names))
