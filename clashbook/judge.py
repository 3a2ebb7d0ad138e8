"""The judge: a paper for what follows from a book, a world against what doesn't."""

from clashbook.closing import closing
from clashbook.floors import value
from clashbook.papers import paper
from clashbook.sheets import numbered, pair_of, places_of, sheet_of
from clashbook.terms import terms_in
from clashbook.worlds import world_of


def spot_against(world, saying):
    beyond = value(world, saying[1])
    return [spot for spot in value(world, saying[0]) if spot not in beyond][0]


# The sheet must have the terms of the book and the saying, and may have more rows than they need.
def judge_on(sheet, book, saying):
    lines = closing(sheet, numbered(sheet, book))
    pair = pair_of(places_of(sheet), saying)
    found = paper(lines, pair[0], pair[1])
    if found is not None:
        return ("follows", sheet, found)
    # Where all is under none every pair has a line: so there is a world here.
    world = world_of(sheet, lines)
    return ("open", world, spot_against(world, saying))


def judge(book, saying):
    return judge_on(sheet_of(terms_in(book, saying)), book, saying)
