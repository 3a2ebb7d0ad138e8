"""Point 19: the world of a closing."""

import copy
import random
import unittest

from samples import A, B, NONE, counter_by_hand, pairs_of, some_rules, some_sheet
from clashbook.closing import closing
from clashbook.floors import is_world
from clashbook.sheets import sheet_of
from clashbook.texts import read
from clashbook.worlds import world_of


def values_by_rows(sheet, world):
    """The values of all numbers of a sheet, row by row as point 10 has them."""
    many, clashes, names = world
    values = []
    for row in sheet:
        value = set()
        if row[0] == "name":
            value = set(dict(names)[row[1]])
        elif row[0] == "both":
            value = values[row[1]] & values[row[2]]
        values.extend([value, counter_by_hand(many, clashes, value)])
    return values


class World(unittest.TestCase):
    def check(self, sheet, rules):
        lines = closing(sheet, rules)
        before = copy.deepcopy((sheet, lines))
        world = world_of(sheet, lines)
        self.assertEqual((sheet, lines), before)
        pairs = set(pairs_of(lines))
        self.assertEqual(world is None, (1, 0) in pairs)
        if world is not None:
            self.check_world(sheet, pairs, world)
        return world

    def check_world(self, sheet, pairs, world):
        self.assertIs(world.__class__, tuple)
        self.assertIs(is_world(world), True)
        self.assertLessEqual(world[0], 2 * len(sheet))
        self.assertEqual([name for name, spots in world[2]], sorted(row[1] for row in sheet if row[0] == "name"))
        values = values_by_rows(sheet, world)
        numbers = range(2 * len(sheet))
        self.assertEqual({(i, j) for i in numbers for j in numbers if values[i] <= values[j]}, pairs)

    def test_the_least_sheet(self):
        self.check([NONE], [])
        self.assertIsNone(self.check([NONE], [([], (1, 0))]))
        self.assertEqual(self.check([NONE], [([(1, 0)], (1, 0))])[2], [])

    def test_names(self):
        self.check([NONE, A], [])
        self.check([NONE, B, A], [])
        self.check([NONE, B, A], [([], (2, 4))])
        self.check([NONE, ("name", "zz"), ("name", "b"), ("name", "az"), ("name", "a")], [([], (4, 6))])

    def test_names_that_are_worth_nothing_or_all(self):
        world = self.check([NONE, A], [([], (2, 3))])
        self.assertEqual(world[2], [("a", [])])
        world = self.check([NONE, A, B], [([], (3, 2))])
        self.assertEqual(world[2][0], ("a", list(range(world[0]))))

    def test_none_where_all_is_under_none(self):
        sheet = sheet_of([read("(a & b)"), read("(c | !a)")])
        self.assertIsNone(self.check(sheet, [([], (2, 3)), ([], (3, 2))]))
        self.assertIsNone(self.check(sheet, [([], (1, 6)), ([], (2, 5))] + [([], (0, 1)), ([(1, 2)], (1, 0))]))
        self.assertIsNotNone(self.check(sheet, [([(1, 2)], (1, 0))]))

    def test_a_term_of_many_sorts(self):
        self.check(sheet_of([read("(a & (b | c))"), read("((a & b) | (a & c))")]), [])

    def test_small_sheets(self):
        chance = random.Random(19)
        nones = 0
        for run in range(200):
            sheet = some_sheet(chance, chance.randint(1, 9))
            nones += self.check(sheet, some_rules(chance, sheet, 3)) is None
        self.assertGreater(nones, 10)
        self.assertLess(nones, 150)

    def test_forty_rows_and_more(self):
        chance = random.Random(20)
        for rows in (39, 40, 41, 50):
            sheet = some_sheet(chance, rows)
            self.assertIsNotNone(self.check(sheet, []))
            self.check(sheet, some_rules(chance, sheet, 3))

    def test_the_lists_are_the_askers_own(self):
        sheet = [NONE, A, B]
        lines = closing(sheet, [])
        first = world_of(sheet, lines)
        kept = copy.deepcopy(first)
        second = world_of(sheet, lines)
        lists = [first[1], first[2], second[1], second[2]] + [spots for name, spots in first[2] + second[2]]
        self.assertEqual(len({id(each) for each in lists}), len(lists))
        first[1].clear()
        first[2][0][1].append(9)
        first[2].pop()
        sheet.append(("name", "c"))
        lines.clear()
        self.assertEqual(second, kept)


if __name__ == "__main__":
    unittest.main()
