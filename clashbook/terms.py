"""Terms, sayings, rules and books: what is in them, and terms made of terms."""

LETTERS = "abcdefghijklmnopqrstuvwxyz"
LONGEST_NAME = 8
WORDS = ("none", "all")
MIRRORED = {"none": "all", "all": "none", "not": "not", "both": "either", "either": "both"}


def is_name(text):
    if not 1 <= len(text) <= LONGEST_NAME or text in WORDS:
        return False
    return all([sign in LETTERS for sign in text])


def parts_of(t):
    # What stands behind the word "name" is a text and no term.
    return () if t[0] == "name" else t[1:]


def leaves(t):
    parts = parts_of(t)
    return sum([leaves(part) for part in parts]) if parts else 1


def depth(t):
    parts = parts_of(t)
    return 1 + max([depth(part) for part in parts]) if parts else 0


def gather_names(t, found):
    if t[0] == "name":
        found[t[1]] = True
    for part in parts_of(t):
        gather_names(part, found)


def names_of_all(terms):
    found = {}
    for t in terms:
        gather_names(t, found)
    return sorted(found)


def names_of(t):
    return names_of_all([t])


def terms_in(book, saying):
    terms = []
    for rule in book:
        for premise in rule[0]:
            terms.extend(premise)
        terms.extend(rule[1])
    terms.extend(saying)
    return terms


def names_in(book, saying):
    return names_of_all(terms_in(book, saying))


def mirror(t):
    if t[0] == "name":
        return t
    return (MIRRORED[t[0]],) + tuple([mirror(part) for part in t[1:]])


def mirror_saying(saying):
    # The mirror turns "under" round, so the sides change places.
    return (mirror(saying[1]), mirror(saying[0]))


def mirror_rule(rule):
    return ([mirror_saying(premise) for premise in rule[0]], mirror_saying(rule[1]))


def filled(t, pairs):
    return filled_from(t, dict(pairs))


def filled_from(t, terms):
    # What is put in is not walked again: so all pairs count at once.
    if t[0] == "name":
        return terms.get(t[1], t)
    return (t[0],) + tuple([filled_from(part, terms) for part in t[1:]])
