"""Sheets: terms as numbered rows, so that a term and its counter are two numbers."""

from clashbook.errors import TooMuch
from clashbook.terms import is_name

NONE_ROW = ("none",)
MOST_ROWS = 40


def is_whole(n):
    # True and False are ints to Python, but no whole numbers here.
    return isinstance(n, int) and not isinstance(n, bool)


def is_below(n, bound):
    return is_whole(n) and 0 <= n < bound


# A row k draws only on rows ahead of it: so its numbers are those of a sheet of k rows.
def is_row(row, k):
    if len(row) == 2:
        return row[0] == "name" and isinstance(row[1], str) and is_name(row[1])
    if len(row) == 3:
        return row[0] == "both" and is_below(row[1], 2 * k) and is_below(row[2], 2 * k)
    return False


def is_sheet(rows):
    if rows[:1] != [NONE_ROW]:
        return False
    if not all([is_row(row, k) for k, row in enumerate(rows) if k > 0]):
        return False
    return len(set(rows)) == len(rows)


def places_of(sheet):
    return dict([(row, k) for k, row in enumerate(sheet)])


def found(places, row):
    place = places.get(row)
    return None if place is None else 2 * place


def put_in(places, row):
    if row not in places:
        if len(places) == MOST_ROWS:
            raise TooMuch("the terms need too many rows")
        places[row] = len(places)
    return 2 * places[row]


def turned(n, turn):
    return None if n is None else n ^ turn


# `row_number` is `found` or `put_in`: one walk for both, so that what is put in is found again.
def number_by(row_number, places, t):
    if t[0] == "none":
        return 0
    if t[0] == "all":
        return 1
    if t[0] == "name":
        return row_number(places, ("name", t[1]))
    if t[0] == "not":
        return turned(number_by(row_number, places, t[1]), 1)
    return joined_number(row_number, places, t)


# An either is the counter of the both of its parts' counters: `turn` is 1 for it, and 0 for a both.
def joined_number(row_number, places, t):
    turn = 1 if t[0] == "either" else 0
    whole = turned(number_by(row_number, places, t[1]), turn)
    for part in t[2:]:
        last = turned(number_by(row_number, places, part), turn)
        # No row has a None in it: where a part has no number, the whole has none either.
        whole = row_number(places, ("both", whole, last))
    return turned(whole, turn)


def number(sheet, t):
    return number_by(found, places_of(sheet), t)


def sheet_of(terms):
    places = {NONE_ROW: 0}
    for t in terms:
        number_by(put_in, places, t)
    return list(places)


def told_row(row, terms):
    if row[0] == "name":
        return [row, ("not", row)]
    i = row[1]
    j = row[2]
    return [("both", terms[i], terms[j]), ("either", terms[i ^ 1], terms[j ^ 1])]


# From the first row on, so that a row that many others draw on is told once.
def told(sheet, n):
    terms = [("none",), ("all",)]
    for row in sheet[1:n // 2 + 1]:
        terms.extend(told_row(row, terms))
    return terms[n]


def pair_of(places, saying):
    return (number_by(found, places, saying[0]), number_by(found, places, saying[1]))


def numbered_rule(places, rule):
    return ([pair_of(places, premise) for premise in rule[0]], pair_of(places, rule[1]))


def numbered(sheet, book):
    places = places_of(sheet)
    return [numbered_rule(places, rule) for rule in book]
