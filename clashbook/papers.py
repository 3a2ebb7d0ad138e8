"""Papers: of many lines just those that one line hangs on."""


# The numbers of lines within a why; in the step by a rule the first number is the rule's.
def lines_named(why):
    return why[2] if why[0] == "rule" else why[1:]


def renamed(why, places):
    if why[0] == "rule":
        return ("rule", why[1], tuple([places[p] for p in why[2]]))
    return why[:1] + tuple([places[p] for p in why[1:]])


def line_for(lines, i, j):
    for k, line in enumerate(lines):
        if (line[0], line[1]) == (i, j):
            return k
    return None


# Lines name only lines ahead of them: so one walk backwards finds all that line k hangs on.
def hung_on(lines, k):
    needed = {k: True}
    for n in range(k, -1, -1):
        if n in needed:
            for p in lines_named(lines[n][2]):
                needed[p] = True
    return sorted(needed)


def paper(lines, i, j):
    k = line_for(lines, i, j)
    if k is None:
        return None
    kept = hung_on(lines, k)
    places = dict([(n, place) for place, n in enumerate(kept)])
    return [(lines[n][0], lines[n][1], renamed(lines[n][2], places)) for n in kept]


def leans(lines):
    return sorted(set([line[2][1] for line in lines if line[2][0] == "rule"]))


# `numbers` has, at the place of each rule, the number by which it is told.
def with_rules_as(lines, numbers):
    return [(i, j, ("rule", numbers[why[1]], why[2]) if why[0] == "rule" else why) for i, j, why in lines]
