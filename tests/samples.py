"""Terms, sheets and rules for the tests, and the steps once more, said in another way."""

NONE = ("none",)
ALL = ("all",)
A, B, C, D = [("name", name) for name in "abcd"]
LEAVES = (NONE, ALL, A, B, C, D)


def some_term(chance, deep):
    kind = chance.choice(("leaf", "not", "both", "both", "either", "either"))
    if deep == 0 or kind == "leaf":
        return chance.choice(LEAVES)
    many = 1 if kind == "not" else chance.choice((2, 2, 3, 4))
    return (kind, *[some_term(chance, deep - 1) for part in range(many)])


def parts_in(t):
    """The term and all terms within it."""
    found = [t]
    if t[0] != "name":
        for part in t[1:]:
            found.extend(parts_in(part))
    return found


def some_sheet(chance, rows):
    sheet = [NONE]
    while len(sheet) < rows:
        many = 2 * len(sheet)
        row = ("both", chance.randrange(many), chance.randrange(many))
        if chance.random() < 0.3:
            row = ("name", chance.choice("abcdefghijklmnopqrstuvwxyz") + chance.choice("stuvw"))
        if row not in sheet:
            sheet.append(row)
    return sheet


def some_rules(chance, sheet, most):
    def pair():
        return (chance.randrange(2 * len(sheet)), chance.randrange(2 * len(sheet)))

    return [([pair() for premise in range(chance.choice((0, 0, 1, 1, 2, 5)))], pair())
            for rule in range(chance.randint(0, most))]


def pairs_of(lines):
    return [line[:2] for line in lines]


def steps_by_hand(sheet, rules, said):
    """All (i, j, why) that are steps from lines that say these pairs, word by word as point 14 has them."""
    numbers = range(2 * len(sheet))
    found = set()
    for i in numbers:
        for j in numbers:
            if i == j:
                found.add((i, j, ("same",)))
            if i == 0 or j == 1:
                found.add((i, j, ("edge",)))
    for k, row in enumerate(sheet):
        if row[0] == "both":
            found.add((2 * k, row[1], ("part",)))
            found.add((2 * k, row[2], ("part",)))
    for p, (h, m) in enumerate(said):
        found.add((m ^ 1, h ^ 1, ("turn", p)))
        if m == h ^ 1:
            found.update((h, j, ("clash", p)) for j in numbers)
        for q, (n, o) in enumerate(said):
            if m == n:
                found.add((h, o, ("chain", p, q)))
            if h == n:
                found.update((h, 2 * k, ("both", p, q)) for k, row in enumerate(sheet) if row == ("both", m, o))
    for r, (premises, pair) in enumerate(rules):
        for ps in ways(premises, said):
            found.add((*pair, ("rule", r, ps)))
    return {step for step in found if step[0] in numbers and step[1] in numbers}


def ways(premises, said):
    """The tuples of line numbers that say these premises in their order."""
    told = [()]
    for premise in premises:
        told = [way + (p,) for way in told for p, pair in enumerate(said) if pair == premise]
    return told
