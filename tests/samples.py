"""Terms, sheets, rules and worlds for the tests; steps and values once more, said in another way."""

NONE = ("none",)
ALL = ("all",)
A, B, C, D = [("name", name) for name in "abcd"]
LEAVES = (NONE, ALL, A, B, C, D)


def some_term(chance, deep):
    kind = chance.choice(("leaf", "not", "both", "both", "either", "either"))
    if deep == 0 or kind == "leaf":
        return chance.choice(LEAVES)
    many = 1 if kind == "not" else chance.choice((2, 2, 3, 4))
    return (kind, *[some_term(chance, deep - 1) for part in range(many)])


def parts_in(t):
    """The term and all terms within it."""
    found = [t]
    if t[0] != "name":
        for part in t[1:]:
            found.extend(parts_in(part))
    return found


def some_sheet(chance, rows):
    sheet = [NONE]
    while len(sheet) < rows:
        many = 2 * len(sheet)
        row = ("both", chance.randrange(many), chance.randrange(many))
        if chance.random() < 0.3:
            row = ("name", chance.choice("abcdefghijklmnopqrstuvwxyz") + chance.choice("stuvw"))
        if row not in sheet:
            sheet.append(row)
    return sheet


def some_rules(chance, sheet, most):
    def pair():
        return (chance.randrange(2 * len(sheet)), chance.randrange(2 * len(sheet)))

    return [([pair() for premise in range(chance.choice((0, 0, 1, 1, 2, 5)))], pair())
            for rule in range(chance.randint(0, most))]


def pairs_of(lines):
    return [line[:2] for line in lines]


def steps_by_hand(sheet, rules, said):
    """All (i, j, why) that are steps from lines that say these pairs, word by word as point 14 has them."""
    numbers = range(2 * len(sheet))
    found = set()
    for i in numbers:
        for j in numbers:
            if i == j:
                found.add((i, j, ("same",)))
            if i == 0 or j == 1:
                found.add((i, j, ("edge",)))
    for k, row in enumerate(sheet):
        if row[0] == "both":
            found.add((2 * k, row[1], ("part",)))
            found.add((2 * k, row[2], ("part",)))
    for p, (h, m) in enumerate(said):
        found.add((m ^ 1, h ^ 1, ("turn", p)))
        if m == h ^ 1:
            found.update((h, j, ("clash", p)) for j in numbers)
        for q, (n, o) in enumerate(said):
            if m == n:
                found.add((h, o, ("chain", p, q)))
            if h == n:
                found.update((h, 2 * k, ("both", p, q)) for k, row in enumerate(sheet) if row == ("both", m, o))
    for r, (premises, pair) in enumerate(rules):
        for ps in ways(premises, said):
            found.add((*pair, ("rule", r, ps)))
    return {step for step in found if step[0] in numbers and step[1] in numbers}


def ways(premises, said):
    """The tuples of line numbers that say these premises in their order."""
    told = [()]
    for premise in premises:
        told = [way + (p,) for way in told for p, pair in enumerate(said) if pair == premise]
    return told


def lines_in(why):
    """The numbers of lines that a why names."""
    return why[2] if why[0] == "rule" else why[1:]


def counter_by_hand(many, clashes, spots):
    """The set of all spots that clash with each spot of a set."""
    return {a for a in range(many) if all((a, b) in clashes or (b, a) in clashes for b in spots)}


def value_by_hand(world, t):
    """The value of a term as a set, word by word as point 4 has it."""
    many, clashes, names = world
    if t[0] == "none":
        return set()
    if t[0] == "all":
        return set(range(many))
    if t[0] == "name":
        return set(dict(names)[t[1]])
    values = [value_by_hand(world, part) for part in t[1:]]
    if t[0] == "not":
        return counter_by_hand(many, clashes, values[0])
    if t[0] == "both":
        return set.intersection(*values)
    counters = [counter_by_hand(many, clashes, value) for value in values]
    return counter_by_hand(many, clashes, set.intersection(*counters))


def holds_by_hand(world, saying):
    return value_by_hand(world, saying[0]) <= value_by_hand(world, saying[1])


def fits_by_hand(world, rule):
    return holds_by_hand(world, rule[1]) or not all([holds_by_hand(world, premise) for premise in rule[0]])


def some_world(chance, many, names="abcd"):
    pairs = [(a, b) for b in range(many) for a in range(b)]
    clashes = sorted(pair for pair in pairs if chance.random() < 0.6)
    sets = []
    for name in sorted(names):
        spots = [a for a in range(many) if chance.random() < 0.3]
        sets.append((name, sorted(counter_by_hand(many, clashes, spots))))
    return (many, clashes, sets)


def some_saying(chance, deep):
    return (some_term(chance, deep), some_term(chance, deep))


def some_rule(chance, deep):
    return ([some_saying(chance, deep) for premise in range(chance.choice((0, 0, 1, 1, 2, 5)))], some_saying(chance, deep))
