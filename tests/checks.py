"""What a paper or a world must be for a book and a saying, whoever tells it."""

import unittest

from samples import fits_by_hand, lines_in, pairs_of, value_by_hand
from clashbook.floors import is_world
from clashbook.sheets import number, numbered
from clashbook.steps import sound
from clashbook.terms import names_in


def names(many):
    """Two-letter names, as terms."""
    return [("name", "q" + sign) for sign in "abcdefghijklmnopqrstuvwxyz"][:many]


def terms_in_order(book, saying):
    sayings = [each for premises, last in book for each in [*premises, last]] + [saying]
    return [t for each in sayings for t in each]


def lists_in(told):
    """All lists within what was told, itself too."""
    found = [told] if isinstance(told, list) else []
    if isinstance(told, (list, tuple)):
        for each in told:
            found.extend(lists_in(each))
    return found


def spoil(told):
    """Empties all lists within what was told."""
    for each in lists_in(told):
        each.clear()


class Checks(unittest.TestCase):
    def check_paper(self, book, saying, sheet, lines):
        self.assertTrue(sound(sheet, numbered(sheet, book), lines))
        self.assertEqual(len(set(pairs_of(lines))), len(lines))
        self.assertEqual({p for line in lines for p in lines_in(line[2])}, set(range(len(lines) - 1)))
        self.assertEqual(lines[-1][:2], (number(sheet, saying[0]), number(sheet, saying[1])))

    def check_world(self, book, saying, world, spot):
        self.assertTrue(is_world(world))
        self.assertLessEqual(world[0], 80)
        self.assertLessEqual(set(names_in(book, saying)), {name for name, spots in world[2]})
        self.assertTrue(all(fits_by_hand(world, rule) for rule in book))
        self.assertIn(spot, value_by_hand(world, saying[0]))
        self.assertNotIn(spot, value_by_hand(world, saying[1]))

    def check_lists_apart(self, *told):
        """No two lists that were told are one list."""
        found = lists_in(list(told))
        self.assertEqual(len({id(each) for each in found}), len(found))
