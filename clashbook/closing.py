"""The closing: all that the eight steps lead to, from a sheet and its rules."""

from clashbook.masks import bits_of
from clashbook.sheets import is_below


# Lines, one a pair. `above[i]` has the bit j, and `below[j]` the bit i, where i under j has a line.
class Growth:
    def __init__(self, many):
        self.lines = []
        self.places = {}
        self.above = [0] * many
        self.below = [0] * many

    def line_of(self, i, j):
        return self.places[(i, j)]

    def has(self, i, j):
        return (i, j) in self.places

    def grow(self, i, j, why):
        if self.has(i, j):
            return
        self.places[(i, j)] = len(self.lines)
        self.lines.append((i, j, why))
        self.above[i] |= 1 << j
        self.below[j] |= 1 << i


def begin(growth, sheet):
    for n in range(2 * len(sheet)):
        growth.grow(n, n, ("same",))
        growth.grow(0, n, ("edge",))
        growth.grow(n, 1, ("edge",))
    for k, row in enumerate(sheet):
        if row[0] == "both":
            growth.grow(2 * k, row[1], ("part",))
            growth.grow(2 * k, row[2], ("part",))


# For each number the both rows that it stands in.
def boths_by_part(sheet):
    boths = [[] for n in range(2 * len(sheet))]
    for k, row in enumerate(sheet):
        if row[0] == "both":
            boths[row[1]].append((2 * k, row[1], row[2]))
            boths[row[2]].append((2 * k, row[1], row[2]))
    return boths


def rules_by_premise(rules):
    waiting = {}
    for r, rule in enumerate(rules):
        for premise in rule[0]:
            waiting.setdefault(premise, []).append(r)
    return waiting


def grow_by_turn(growth, i, j):
    growth.grow(j ^ 1, i ^ 1, ("turn", growth.line_of(i, j)))


# The line may be the first or the second one of a chain; only pairs without a line are walked.
def grow_by_chain(growth, i, j):
    line = growth.line_of(i, j)
    for m in bits_of(growth.above[j] & ~growth.above[i]):
        growth.grow(i, m, ("chain", line, growth.line_of(j, m)))
    for h in bits_of(growth.below[i] & ~growth.below[j]):
        growth.grow(h, j, ("chain", growth.line_of(h, i), line))


def grow_by_both(growth, i, boths):
    for n, a, b in boths:
        if growth.has(i, a) and growth.has(i, b):
            growth.grow(i, n, ("both", growth.line_of(i, a), growth.line_of(i, b)))


def grow_by_clash(growth, i, j):
    if j == i ^ 1:
        for n in range(len(growth.above)):
            growth.grow(i, n, ("clash", growth.line_of(i, j)))


def grow_by_rule(growth, rules, r):
    premises = rules[r][0]
    pair = rules[r][1]
    # A pair with a number beyond the sheet has no line: such a rule leads nowhere.
    if not all([is_below(n, len(growth.above)) for n in pair]):
        return
    if all([growth.has(i, j) for i, j in premises]):
        lines = tuple([growth.line_of(i, j) for i, j in premises])
        growth.grow(pair[0], pair[1], ("rule", r, lines))


# Each line is taken once, with all lines that are there by then: of lines that make a step together,
# the one that is taken last finds the others.
def closing(sheet, rules):
    growth = Growth(2 * len(sheet))
    boths = boths_by_part(sheet)
    waiting = rules_by_premise(rules)
    begin(growth, sheet)
    for r in range(len(rules)):
        grow_by_rule(growth, rules, r)
    k = 0
    while k < len(growth.lines):
        i = growth.lines[k][0]
        j = growth.lines[k][1]
        grow_by_turn(growth, i, j)
        grow_by_chain(growth, i, j)
        grow_by_both(growth, i, boths[j])
        grow_by_clash(growth, i, j)
        for r in waiting.get((i, j), []):
            grow_by_rule(growth, rules, r)
        k += 1
    return growth.lines
