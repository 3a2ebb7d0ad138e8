"""Floors and worlds: spots that clash, full sets of spots, and what terms are worth there."""

from clashbook.errors import NoName
from clashbook.masks import bits_of, mask_of
from clashbook.sheets import is_below, is_whole
from clashbook.terms import is_name, names_in, names_of


# Sets of spots are masks here: `clashing[a]` has the spots that clash with a, `everywhere` all spots.
class Floor:
    def __init__(self, many, clashes):
        self.everywhere = (1 << many) - 1
        self.clashing = [0] * many
        for a, b in clashes:
            self.clashing[a] |= 1 << b
            self.clashing[b] |= 1 << a

    def common_of(self, sets):
        common = self.everywhere
        for spots in sets:
            common &= spots
        return common

    def counter_of(self, spots):
        return self.common_of([self.clashing[a] for a in bits_of(spots)])

    def is_full(self, spots):
        return self.counter_of(self.counter_of(spots)) == spots

    def value_of(self, sets, t):
        if t[0] == "none":
            return 0
        if t[0] == "all":
            return self.everywhere
        if t[0] == "name":
            return sets[t[1]]
        values = [self.value_of(sets, part) for part in t[1:]]
        if t[0] == "not":
            return self.counter_of(values[0])
        if t[0] == "both":
            return self.common_of(values)
        return self.counter_of(self.common_of([self.counter_of(spots) for spots in values]))

    def is_under(self, sets, saying):
        return self.value_of(sets, saying[0]) & ~self.value_of(sets, saying[1]) == 0


def counter(many, clashes, spots):
    return bits_of(Floor(many, clashes).counter_of(mask_of(spots)))


# The names' sets of a world; a name that is lacking is refused here, before anything is worked out.
def sets_for(world, names):
    sets = dict([(name, mask_of(spots)) for name, spots in world[2]])
    for name in names:
        if name not in sets:
            raise NoName(f"the world has no {name}")
    return sets


def value(world, t):
    sets = sets_for(world, names_of(t))
    return bits_of(Floor(world[0], world[1]).value_of(sets, t))


def holds(world, saying):
    sets = sets_for(world, names_in([], saying))
    return Floor(world[0], world[1]).is_under(sets, saying)


def fits(world, rule):
    sets = sets_for(world, names_in([rule], rule[1]))
    floor = Floor(world[0], world[1])
    if not all([floor.is_under(sets, premise) for premise in rule[0]]):
        return True
    return floor.is_under(sets, rule[1])


def is_rising(things):
    return all([one < other for one, other in zip(things, things[1:])])


def are_spots(many, spots):
    return all([is_below(a, many) for a in spots]) and is_rising(spots)


def are_clashes(many, clashes):
    return all([are_spots(many, pair) for pair in clashes]) and is_rising(clashes)


def is_world(world):
    many = world[0]
    if not is_whole(many) or many < 1 or not are_clashes(many, world[1]):
        return False
    if not all([is_name(name) and are_spots(many, spots) for name, spots in world[2]]):
        return False
    if not is_rising([name for name, spots in world[2]]):
        return False
    floor = Floor(many, world[1])
    return all([floor.is_full(mask_of(spots)) for name, spots in world[2]])
