"""Point 16: the closing is sound, has one line a pair, and nothing can be added."""

import copy
import itertools
import random
import unittest

from samples import A, B, C, D, NONE, pairs_of, some_rules, some_sheet, steps_by_hand
from clashbook.closing import closing
from clashbook.sheets import numbered, sheet_of
from clashbook.steps import sound
from clashbook.texts import read, read_rule


def pairs_by_hand(sheet, rules):
    """Whatever the steps lead to, round by round until nothing comes anew."""
    pairs = set()
    while True:
        more = pairs | {step[:2] for step in steps_by_hand(sheet, rules, sorted(pairs))}
        if more == pairs:
            return pairs
        pairs = more


def needed_pairs(sheet, rules, pairs):
    """What one step from these pairs leads to; like steps_by_hand, but quick enough for forty rows."""
    many = 2 * len(sheet)
    above = {i: {j for j in range(many) if (i, j) in pairs} for i in range(many)}
    found = {(n, n) for n in range(many)} | {(0, n) for n in range(many)} | {(n, 1) for n in range(many)}
    found.update((j ^ 1, i ^ 1) for i, j in pairs)
    found.update((i, m) for i, j in pairs for m in above[j])
    found.update((i, n) for i in range(many) if i ^ 1 in above[i] for n in range(many))
    for k, row in enumerate(sheet):
        if row[0] == "both":
            found.update([(2 * k, row[1]), (2 * k, row[2])])
            found.update((i, 2 * k) for i in range(many) if row[1] in above[i] and row[2] in above[i])
    found.update(pair for premises, pair in rules if all(premise in pairs for premise in premises))
    return found


def values_by_spots(sheet, pairs):
    """The values of all numbers in the world that point 19 makes of a closing."""
    many = 2 * len(sheet)
    spots = [n for n in range(many) if (n, n ^ 1) not in pairs]

    def counter(these):
        return {i for i in spots if all((i, j ^ 1) in pairs for j in these)}

    values = []
    for k, row in enumerate(sheet):
        value = set()
        if row[0] == "name":
            value = {i for i in spots if (i, 2 * k) in pairs}
        elif row[0] == "both":
            value = values[row[1]] & values[row[2]]
        values.extend([value, counter(value)])
    return values


class Closing(unittest.TestCase):
    def closed(self, sheet, rules):
        """The pairs of a closing; that it is one is looked at on the way."""
        before = copy.deepcopy((sheet, rules))
        lines = closing(sheet, rules)
        self.assertEqual((sheet, rules), before)
        self.assertIs(lines.__class__, list)
        self.assertTrue(sound(sheet, rules, lines))
        pairs = set(pairs_of(lines))
        self.assertEqual(len(pairs), len(lines))
        self.assertLessEqual(needed_pairs(sheet, rules, pairs), pairs)
        return pairs

    def follows(self, book, s, t):
        """Whether one text is under another, by a book of texts."""
        rules = [read_rule(text) for text in book]
        terms = [side for rule in rules for saying in rule[0] + [rule[1]] for side in saying]
        sheet = sheet_of(terms + [read(s), read(t)])
        asked = numbered(sheet, [([], (read(s), read(t)))])[0][1]
        return asked in self.closed(sheet, numbered(sheet, rules))

    def check(self, book, s, t, asked):
        self.assertIs(self.follows(book, s, t), asked, (book, s, t))

    def test_the_least_sheet(self):
        self.assertEqual(self.closed([NONE], []), {(0, 0), (0, 1), (1, 1)})
        self.assertEqual(self.closed([NONE], [([], (1, 0))]), {(0, 0), (0, 1), (1, 0), (1, 1)})
        self.assertEqual(self.closed([NONE], [([(1, 0)], (1, 0))]), {(0, 0), (0, 1), (1, 1)})

    def test_a_name(self):
        free = {(n, n) for n in range(4)} | {(0, n) for n in range(4)} | {(n, 1) for n in range(4)}
        self.assertEqual(self.closed([NONE, A], []), free)
        self.assertEqual(self.closed([NONE, A], [([], (2, 3))]), free | {(2, 0), (2, 3), (1, 3)})
        self.assertEqual(self.closed([NONE, A], [([], (1, 2))]), free | {(1, 2), (3, 0), (3, 2)})

    def test_everything_where_all_is_under_none(self):
        sheet = sheet_of([("both", A, B), ("either", C, D)])
        everything = set(itertools.product(range(2 * len(sheet)), repeat=2))
        self.assertEqual(self.closed(sheet, [([], (1, 0))]), everything)
        self.assertEqual(self.closed(sheet, [([], (2, 3)), ([], (3, 2))]), everything)

    def test_each_of_the_eight_steps(self):
        for s, t, asked in (
            ("a", "a", True), ("none", "a", True), ("a", "all", True), ("a", "b", False), ("all", "none", False),
            ("(a & b)", "a", True), ("(a & b)", "b", True), ("a", "(a & b)", False), ("a", "(a & a)", True),
            ("(a & b)", "(b & a)", True), ("((a & b) & c)", "(a & (b & c))", True), ("(a & !a)", "none", True),
            ("(a & !a)", "b", True), ("all", "(a | !a)", True), ("b", "(a | !a)", True), ("a", "(a | b)", True),
            ("(a | b)", "a", False), ("(a | a)", "a", True), ("!(a & b)", "(!a | !b)", True), ("!!a", "a", True),
            ("(a & (b | c))", "((a & b) | (a & c))", False), ("((a & b) | (a & c))", "(a & (b | c))", True),
            ("(a | (a & b))", "a", True), ("a", "((a & b) | (a & !b))", False), ("(a & b & !a)", "c", True),
            ("(a & (b | !b))", "a", True), ("a", "(a & (b | !b))", True),
        ):
            self.check([], s, t, asked)

    def test_rules_without_premises(self):
        self.check(["a < b"], "a", "b", True)
        self.check(["a < b"], "b", "a", False)
        self.check(["a < b"], "!b", "!a", True)
        self.check(["a < b", "b < c"], "a", "c", True)
        self.check(["a < b", "b < c"], "c", "a", False)
        self.check(["a < b", "a < c"], "a", "(b & c)", True)
        self.check(["a < c", "b < c"], "(a | b)", "c", True)
        self.check(["a < b", "a < !b"], "a", "none", True)
        self.check(["a < b", "a < !b"], "b", "none", False)
        self.check(["a < !a"], "a", "b", True)
        self.check(["!a < a"], "b", "a", True)
        self.check(["(a & b) < none"], "a", "!b", False)
        self.check(["a < !b"], "(a & b)", "none", True)

    def test_rules_with_premises(self):
        self.check(["a < b => b < c"], "b", "c", False)
        self.check(["a < b => b < c", "a < b"], "b", "c", True)
        self.check(["a < b, b < c => c < d", "a < b"], "c", "d", False)
        self.check(["a < b, b < c => c < d", "a < b", "b < c"], "c", "d", True)
        self.check(["a < b, a < b => b < c", "a < b"], "b", "c", True)
        self.check(["c < d => d < a", "b < c => c < d", "a < b => b < c", "a < b"], "d", "b", True)
        self.check(["a < b => a < b"], "a", "b", False)
        self.check(["a < b => b < c", "b < c => a < b"], "a", "b", False)
        self.check(["!b < !a => b < c", "a < b"], "b", "c", True)
        self.check(["(a & b) < b => b < c"], "b", "c", True)
        self.check(["a < b, b < c, c < d, d < a, a < c => all < a", "a < b", "c < d", "d < a", "b < c"], "none", "a", True)
        self.check(["a < b, b < c, c < d, d < a, a < c => all < a", "a < b", "c < d", "d < a", "b < c"], "all", "d", True)
        self.check(["a < b, b < c, c < d, d < a, a < c => all < a", "a < b", "c < d", "d < a"], "all", "a", False)

    def test_small_sheets_by_hand(self):
        chance = random.Random(16)
        for run in range(120):
            sheet = some_sheet(chance, chance.randint(1, 4))
            rules = some_rules(chance, sheet, 4)
            self.assertEqual(self.closed(sheet, rules), pairs_by_hand(sheet, rules), (sheet, rules))

    def test_larger_sheets(self):
        chance = random.Random(17)
        for run in range(60):
            sheet = some_sheet(chance, chance.choice((5, 8, 12, 20)))
            self.closed(sheet, some_rules(chance, sheet, 6))

    def test_forty_rows_and_more(self):
        chance = random.Random(18)
        for rows in (40, 40, 40, 41, 60):
            sheet = some_sheet(chance, rows)
            self.closed(sheet, some_rules(chance, sheet, 12))
            self.closed(sheet, [])
        sheet = some_sheet(chance, 40)
        self.assertEqual(len(self.closed(sheet, [([], (1, 0))])), 6400)

    def test_more_premises_and_rules_than_a_book_has(self):
        sheet = [NONE] + [("name", first + second) for first in "ab" for second in "abcdefghi"]
        rules = [([(2 * k, 2 * k + 2)], (2 * k + 2, 2 * k + 4)) for k in range(1, 16)] + [([], (2, 4))]
        self.assertIn((2, 34), self.closed(sheet, rules))
        rules.append(([(2 * k, 2 * k + 2) for k in range(1, 10)], (34, 2)))
        self.assertIn((8, 6), self.closed(sheet, rules))

    def test_rules_in_another_order_or_twice(self):
        chance = random.Random(19)
        for run in range(40):
            sheet = some_sheet(chance, chance.randint(3, 8))
            rules = some_rules(chance, sheet, 6)
            pairs = self.closed(sheet, rules)
            for order in range(3):
                other = list(rules)
                chance.shuffle(other)
                self.assertEqual(self.closed(sheet, other), pairs)
            self.assertEqual(self.closed(sheet, rules + rules[:2]), pairs)
            turned = [([*premises[::-1], *premises], pair) for premises, pair in rules]
            self.assertEqual(self.closed(sheet, turned), pairs)

    def test_a_chain_of_rules_from_the_last_on(self):
        sheet = [NONE, A, B, C, D]
        rules = [([(4, 6)], (6, 8)), ([(2, 4)], (4, 6)), ([], (2, 4))]
        for order in itertools.permutations(rules):
            pairs = self.closed(sheet, list(order))
            self.assertLessEqual({(2, 8), (9, 3), (4, 8)}, pairs)
            self.assertNotIn((8, 2), pairs)

    def test_a_rule_beyond_the_sheet_leads_nowhere(self):
        sheet = [NONE, A]
        pairs = self.closed(sheet, [])
        for rule in (([], (2, 4)), ([], (4, 2)), ([], (-1, 2)), ([], (2, -1)), ([(2, 4)], (2, 0)), ([(-2, 3)], (2, 0))):
            self.assertEqual(set(pairs_of(closing(sheet, [rule]))), pairs)

    # Each pair that is lacking fails to hold in a world in which all rules hold: so none could be added.
    def test_the_world_of_a_closing(self):
        chance = random.Random(20)
        for run in range(80):
            sheet = some_sheet(chance, chance.randint(1, 9))
            rules = some_rules(chance, sheet, 4)
            pairs = self.closed(sheet, rules)
            if (1, 0) not in pairs:
                values = values_by_spots(sheet, pairs)
                numbers = range(2 * len(sheet))
                self.assertEqual({(i, j) for i in numbers for j in numbers if values[i] <= values[j]}, pairs)

    def test_the_list_is_the_askers_own(self):
        sheet = [NONE, A, B]
        rules = [([], (2, 4))]
        first = closing(sheet, rules)
        kept = list(first)
        second = closing(sheet, rules)
        self.assertIsNot(first, second)
        first.clear()
        self.assertEqual(second, kept)
        self.assertEqual(closing(sheet, rules), kept)
        rules[0][0].append((4, 2))
        sheet.append(C)
        self.assertEqual(second, kept)
        self.assertNotIn((2, 4), self.closed(sheet, rules))


if __name__ == "__main__":
    unittest.main()
