"""Reasons: the least sets of rules that do, and the greatest that don't."""

from clashbook.errors import NoRule, TooMuch
from clashbook.judge import judge_on
from clashbook.masks import bits_of
from clashbook.papers import with_rules_as
from clashbook.sheets import is_below, sheet_of
from clashbook.terms import terms_in

MOST_RULES = 6


def order_of(places):
    return (len(places), places)


def sets_of_places(many):
    return sorted([bits_of(mask) for mask in range(1 << many)], key=order_of)


def lies_in(some, places):
    return all([place in places for place in some])


def has_support(supports, places):
    return any([lies_in(support[0], places) for support in supports])


def those_around(opens, places):
    return [one for one in opens if lies_in(places, one[0])]


# No two opens are of the same places: so one that lies in no other has just itself around it.
def greatest(opens):
    return [one for one in opens if len(those_around(opens, one[0])) == 1]


# From few rules to many: what has a support in it isn't asked, so what is asked and follows is least.
def reasons(book, saying):
    if len(book) > MOST_RULES:
        raise TooMuch("the book has too many rules")
    sheet = sheet_of(terms_in(book, saying))
    supports = []
    opens = []
    for places in sets_of_places(len(book)):
        if not has_support(supports, places):
            answer = judge_on(list(sheet), [book[place] for place in places], saying)
            if answer[0] == "follows":
                supports.append((places, answer[1], with_rules_as(answer[2], places)))
            else:
                opens.append((places, answer[1], answer[2]))
    return (supports, greatest(opens))


def rest_of(many, places):
    return [place for place in range(many) if place not in places]


def breaks(book, saying):
    opens = reasons(book, saying)[1]
    return sorted([rest_of(len(book), places) for places, world, spot in opens], key=order_of)


def part_of(book, saying, place):
    if not is_below(place, len(book)):
        raise NoRule(f"the book has no place {place!r}")
    supports = reasons(book, saying)[0]
    with_it = [support for support in supports if place in support[0]]
    if with_it == []:
        return "idle"
    return "needed" if len(with_it) == len(supports) else "helps"
