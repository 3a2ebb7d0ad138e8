"""Points 10 to 13, and the numbered rules of point 14: sheets, numbers, and what they are told as."""

import copy
import itertools
import random
import unittest

from samples import A, ALL, B, C, D, NONE, parts_in, some_sheet, some_term
from clashbook.errors import TooMuch
from clashbook.sheets import is_sheet, number, numbered, sheet_of, told

NOT_A, NOT_B, NOT_C = [("not", t) for t in (A, B, C)]
# Two letters each: as many names as any test here needs.
NAMES = [("name", first + second) for first in "zyxwvutsrq" for second in "abcdefghijk"]


def binary(t):
    """The same term with none, names, not, and both of two parts alone, as point 11 takes it."""
    if t == ALL:
        return ("not", NONE)
    if t[0] in ("none", "name"):
        return t
    if t[0] == "not":
        part = binary(t[1])
        return part[1] if part[0] == "not" else ("not", part)
    if t[0] == "either":
        return binary(("not", ("both", *[("not", part) for part in t[1:]])))
    if len(t) > 3:
        return binary(("both", t[:-1], t[-1]))
    return ("both", binary(t[1]), binary(t[2]))


def number_by_hand(sheet, t):
    """The number of a term that `binary` has made."""
    if t[0] == "not":
        n = number_by_hand(sheet, t[1])
        return None if n is None else n ^ 1
    row = t if t[0] != "both" else ("both", number_by_hand(sheet, t[1]), number_by_hand(sheet, t[2]))
    return 2 * sheet.index(row) if row in sheet else None


def left_both(parts):
    t = parts[0]
    for part in parts[1:]:
        t = ("both", t, part)
    return t


class IsSheet(unittest.TestCase):
    def check(self, rows, asked):
        before = copy.deepcopy(rows)
        self.assertIs(is_sheet(rows), asked, rows)
        self.assertEqual(rows, before)

    def test_one_row(self):
        self.check([NONE], True)

    def test_no_rows(self):
        self.check([], False)

    def test_row_nought(self):
        for row in (ALL, A, ("name", "none"), ("both", 0, 0), ("both", 0, 1), ("none", "a"), ("none", 0, 0), ("None",),
                    ("",), ("not",), ("name",), ("none", "")):
            self.check([row], False)
            self.check([row, NONE], False)
            self.check([row, B], False)

    def test_forty_rows_and_more(self):
        for many in (39, 40, 41, 100):
            self.check([NONE] + NAMES[:many - 1], True)
            rows = [NONE, A]
            while len(rows) < many:
                rows.append(("both", 2 * len(rows) - 1, 2 * len(rows) - 2))
            self.check(rows, True)
            self.check(rows[:-1] + [("both", 2 * many - 2, 0)], False)
        chance = random.Random(10)
        for many in range(1, 101):
            self.check(some_sheet(chance, many), True)

    def test_rows_of_any_order(self):
        self.check([NONE, ("both", 0, 1), A, ("both", 5, 2), B], True)
        self.check([NONE, ("both", 1, 1), ("both", 1, 0), ("both", 0, 0), ("both", 0, 1)], True)
        self.check([NONE, ("name", "b"), ("name", "a"), ("both", 2, 4), ("both", 4, 2)], True)

    def test_a_row_twice(self):
        rows = [NONE, A, B, ("both", 2, 4), ("both", 3, 7)]
        self.check(rows, True)
        for place, row in itertools.product(range(1, 6), rows):
            self.check(rows[:place] + [row] + rows[place:], False)
        for row in rows:
            self.check(rows + [row], False)
        self.check([NONE, NONE], False)
        self.check([NONE] + NAMES[:38] + [NAMES[0]], False)
        self.check([NONE] + NAMES[:38] + [NAMES[37]], False)

    def test_a_name_that_is_none(self):
        for text in ("", "none", "all", "A", "aB", "a1", "a ", " a", "a\n", "a_b", "abcdefghi", "!a", "(a & b)", "\u00e9"):
            self.check([NONE, ("name", text)], False)
            self.check([NONE, A, ("name", text), B], False)
        for text in ("a", "abcdefgh", "non", "alls", "name", "both", "not", "either"):
            self.check([NONE, ("name", text)], True)

    def test_the_bounds_of_both(self):
        names = [NONE] + NAMES
        for k in (1, 2, 3, 20, 39, 98):
            for n in (0, 1, 2 * k - 2, 2 * k - 1):
                self.check(names[:k] + [("both", n, 0)], True)
                self.check(names[:k] + [("both", 1, n)], True)
            for n in (-1, -2, -2 * k, 2 * k, 2 * k + 1, 2 * k + 2, 1000):
                self.check(names[:k] + [("both", n, 0)], False)
                self.check(names[:k] + [("both", 1, n)], False)
                self.check(names[:k] + [("both", n, n), D], False)

    def test_a_truth_is_no_whole_number(self):
        for truth in (True, False):
            self.check([NONE, ("both", truth, 0)], False)
            self.check([NONE, ("both", 0, truth)], False)

    def test_other_words(self):
        for row in (ALL, ("either", 0, 1), ("not", "a"), ("name",), ("both",), ("", "a"), ("", 0, 0), ("Name", "a"),
                    ("Both", 0, 0), ("names", "a"), ("all", 0, 0), ("none", 0, 0), ("none", "a"), ("all", "a"), ("a",)):
            self.check([NONE, row], False)
            self.check([NONE, A, row, B], False)

    def test_too_many_or_too_few_things(self):
        for row in ((), ("both", 0), ("both", 0, 1, 0), ("both", "a"), ("both", "a", "b"), ("both", 0, "a"), ("name", 0),
                    ("name", 0, 1), ("name", "a", "b"), ("name", "a", 0, 1), ("name", "a", 0)):
            self.check([NONE, row], False)
            self.check([NONE, B, row], False)


class Number(unittest.TestCase):
    def check(self, sheet, t, asked):
        before = copy.deepcopy(sheet)
        found = number(sheet, t)
        self.assertEqual(found, asked, t)
        self.assertIs(found.__class__, asked.__class__)
        self.assertEqual(sheet, before)

    def test_none_and_all(self):
        for sheet in ([NONE], [NONE, A], [NONE, ("both", 0, 1)]):
            self.check(sheet, NONE, 0)
            self.check(sheet, ALL, 1)
            self.check(sheet, ("not", NONE), 1)
            self.check(sheet, ("not", ALL), 0)

    def test_names(self):
        sheet = [NONE, B, ("both", 0, 2), A]
        self.check(sheet, B, 2)
        self.check(sheet, A, 6)
        self.check(sheet, C, None)
        self.check(sheet, ("name", "both"), None)

    def test_not(self):
        sheet = [NONE, A, ("both", 2, 2)]
        self.check(sheet, NOT_A, 3)
        self.check(sheet, ("not", NOT_A), 2)
        self.check(sheet, ("not", ("not", NOT_A)), 3)
        self.check(sheet, ("not", ("both", A, A)), 5)
        self.check(sheet, ("not", ("not", ("both", A, ("not", NOT_A)))), 4)

    def test_both_keeps_its_order(self):
        sheet = [NONE, A, B, ("both", 4, 2), ("both", 2, 4)]
        self.check(sheet, ("both", B, A), 6)
        self.check(sheet, ("both", A, B), 8)
        self.check(sheet[:4], ("both", A, B), None)
        self.check(sheet[:4], ("both", B, A), 6)

    def test_both_of_leaves(self):
        sheet = [NONE, ("both", 0, 1), ("both", 1, 1), A, ("both", 7, 1), ("both", 6, 7)]
        self.check(sheet, ("both", NONE, ALL), 2)
        self.check(sheet, ("both", ("not", ALL), ("not", NONE)), 2)
        self.check(sheet, ("both", ALL, ALL), 4)
        self.check(sheet, ("both", ALL, NONE), None)
        self.check(sheet, ("both", NOT_A, ALL), 8)
        self.check(sheet, ("both", A, NOT_A), 10)
        self.check(sheet, ("either", NOT_A, A), 11)
        self.check(sheet, ("either", A, NONE), 9)

    def test_both_of_more_parts(self):
        sheet = [NONE, A, B, C, ("both", 2, 4), ("both", 8, 6), ("both", 4, 6), ("both", 2, 12), ("both", 10, 2)]
        self.check(sheet, ("both", A, B, C), 10)
        self.check(sheet, ("both", ("both", A, B), C), 10)
        self.check(sheet, ("both", A, ("both", B, C)), 14)
        self.check(sheet, ("both", A, B, C, A), 16)
        self.check(sheet, ("both", ("both", A, B), C, A), 16)
        self.check(sheet, ("both", ("both", A, B, C), A), 16)
        self.check(sheet, ("both", A, B, ("both", C, A)), None)
        self.check(sheet, ("both", A, C, B), None)
        self.check(sheet, ("both", A, B, C, B), None)

    def test_either(self):
        sheet = [NONE, A, B, C, ("both", 3, 5), ("both", 8, 7), ("both", 10, 2)]
        self.check(sheet, ("either", A, B), 9)
        self.check(sheet, ("not", ("either", A, B)), 8)
        self.check(sheet, ("both", NOT_A, NOT_B), 8)
        self.check(sheet, ("either", B, A), None)
        self.check(sheet, ("either", A, B, C), 11)
        self.check(sheet, ("not", ("both", ("both", NOT_A, NOT_B), NOT_C)), 11)
        self.check(sheet, ("either", ("either", A, B), C), 11)
        self.check(sheet, ("either", A, ("either", B, C)), None)
        self.check(sheet, ("either", A, B, C, NOT_A), 13)
        self.check(sheet, ("either", A, B, C, A), None)

    def test_none_where_a_row_is_lacking(self):
        sheet = [NONE, A, B, ("both", 2, 4)]
        for t in (C, ("not", C), ("both", A, C), ("both", C, A), ("both", A, B, C), ("both", C, A, B), ("either", A, B),
                  ("either", C, A), ("not", ("either", A, C)), ("both", A, ("not", ("both", B, C))), ("both", A, A),
                  ("both", A, B, A), ("both", C, C), ("either", ("not", C), ("not", C)), ("both", NONE, NONE)):
            self.check(sheet, t, None)
            self.check(sheet, ("not", t), None)
        self.check([NONE], A, None)

    def test_by_hand(self):
        chance = random.Random(11)
        for run in range(300):
            t = some_term(chance, 3)
            sheet = sheet_of([t])
            for part in parts_in(t):
                self.check(sheet, part, number_by_hand(sheet, binary(part)))
                self.assertIsNotNone(number(sheet, part))
            short = sheet[:chance.randint(1, len(sheet))]
            for part in parts_in(t) + [some_term(chance, 2)]:
                self.check(short, part, number_by_hand(short, binary(part)))

    def test_a_sheet_of_more_than_forty_rows(self):
        sheet = [NONE] + NAMES[:60] + [("both", 2, 120)]
        self.check(sheet, NAMES[59], 120)
        self.check(sheet, ("both", NAMES[0], NAMES[59]), 122)

    def test_nothing_is_kept(self):
        sheet = [NONE, A]
        self.check(sheet, B, None)
        sheet.append(B)
        self.check(sheet, B, 4)
        sheet[1] = C
        self.check(sheet, A, None)


class SheetOf(unittest.TestCase):
    def check(self, terms, rows):
        before = copy.deepcopy(terms)
        found = sheet_of(terms)
        self.assertEqual(found, rows)
        self.assertIs(found.__class__, list)
        self.assertTrue(is_sheet(found))
        self.assertEqual(terms, before)

    def refused(self, terms):
        before = copy.deepcopy(terms)
        with self.assertRaises(TooMuch):
            sheet_of(terms)
        self.assertEqual(terms, before)

    def test_no_rows_needed(self):
        for terms in ([], [NONE], [ALL], [ALL, NONE, ("not", ALL), ("not", ("not", NONE))]):
            self.check(terms, [NONE])

    def test_names(self):
        self.check([A], [NONE, A])
        self.check([B, A, B], [NONE, B, A])
        self.check([("not", B), NONE, ("not", ("not", A))], [NONE, B, A])

    def test_parts_ahead_of_what_is_made_of_them(self):
        self.check([("both", A, B)], [NONE, A, B, ("both", 2, 4)])
        self.check([("both", A, B, C)], [NONE, A, B, ("both", 2, 4), C, ("both", 6, 8)])
        self.check([("both", A, ("both", B, C))], [NONE, A, B, C, ("both", 4, 6), ("both", 2, 8)])
        self.check([("both", B, A, NOT_B, D)], [NONE, B, A, ("both", 2, 4), ("both", 6, 3), D, ("both", 8, 10)])

    def test_either(self):
        self.check([("either", A, B)], [NONE, A, B, ("both", 3, 5)])
        self.check([("either", A, B, C)], [NONE, A, B, ("both", 3, 5), C, ("both", 6, 9)])
        self.check([("either", NOT_B, A)], [NONE, B, A, ("both", 2, 5)])
        self.check([("either", NONE, ALL)], [NONE, ("both", 1, 0)])
        self.check([("either", ("both", A, B), ("either", C, A))],
                   [NONE, A, B, ("both", 2, 4), C, ("both", 9, 3), ("both", 7, 10)])

    def test_not_and_the_both_of_leaves(self):
        self.check([("not", ("both", A, NOT_A))], [NONE, A, ("both", 2, 3)])
        self.check([("both", NONE, ALL)], [NONE, ("both", 0, 1)])
        self.check([("both", A, A, A)], [NONE, A, ("both", 2, 2), ("both", 4, 2)])

    def test_a_row_that_is_there_already(self):
        rows = [NONE, A, B, ("both", 2, 4)]
        self.check([("both", A, B), ("both", A, B), B, A, ("either", NOT_A, NOT_B), ("not", ("both", A, B))], rows)
        self.check([("both", A, B), ("both", B, A)], rows + [("both", 4, 2)])
        self.check([("both", A, B), ("both", A, B, C)], rows + [C, ("both", 6, 8)])
        self.check([("both", A, B, C), ("both", ("both", A, B), C)], rows + [C, ("both", 6, 8)])
        self.check([("either", A, B), ("both", NOT_A, NOT_B, ALL)], [NONE, A, B, ("both", 3, 5), ("both", 6, 1)])

    def test_term_by_term(self):
        self.check([C, ("both", B, C), A], [NONE, C, B, ("both", 4, 2), A])
        self.check([A, C, ("both", B, C)], [NONE, A, C, B, ("both", 6, 4)])

    def test_rows_are_just_those_needed(self):
        chance = random.Random(12)
        for run in range(300):
            terms = [some_term(chance, 2) for many in range(chance.randint(0, 3))]
            sheet = sheet_of(terms)
            self.assertTrue(is_sheet(sheet))
            needed = {("name", name) for name in "abcd"} & {part for t in terms for part in parts_in(t)}
            boths = {part for t in terms for part in parts_in(binary(t)) if part[0] == "both"}
            numbers = {("both", number_by_hand(sheet, t[1]), number_by_hand(sheet, t[2])) for t in boths}
            self.assertEqual(set(sheet), {NONE} | needed | numbers)

    def test_forty_rows(self):
        self.check(NAMES[:39], [NONE] + NAMES[:39])
        self.refused(NAMES[:40])
        self.assertEqual(len(sheet_of([("both", *NAMES[:20])])), 40)
        self.refused([("both", *NAMES[:21])])
        self.refused([("both", *NAMES[:20]), NAMES[20]])
        self.assertEqual(len(sheet_of([("either", *NAMES[:20])])), 40)
        self.refused([("either", *NAMES[:20]), ("both", NAMES[0], NAMES[1])])
        self.assertEqual(len(sheet_of([("both", *[A] * 39)])), 40)
        self.refused([("both", *[A] * 40)])
        self.refused([("either", *[NOT_A] * 60)])
        self.refused([("both", *NAMES[:60])])

    def test_the_last_row_is_a_both(self):
        terms = NAMES[:38]
        whole = ("both", NAMES[0], NAMES[1])
        self.assertEqual(sheet_of(terms + [whole]), [NONE] + NAMES[:38] + [("both", 2, 4)])
        self.refused(terms + [("both", NAMES[0], NAMES[1], NAMES[2])])
        self.refused(NAMES[:39] + [whole])

    def test_forty_rows_and_nothing_new(self):
        terms = NAMES[:38] + [("both", NAMES[0], NAMES[1])]
        rows = sheet_of(terms)
        self.check(terms + terms + [NONE, ALL, ("not", terms[-1]), NAMES[37]], rows)
        self.check(terms + [("either", ("not", NAMES[0]), ("not", NAMES[1]))] * 30, rows)
        self.refused(terms + terms + [("both", NAMES[1], NAMES[0])])

    def test_the_list_is_the_askers_own(self):
        terms = [("both", A, B)]
        first = sheet_of(terms)
        first.append(C)
        first[1] = D
        self.check(terms, [NONE, A, B, ("both", 2, 4)])
        empty = sheet_of([])
        empty.append(A)
        self.check([], [NONE])


class Told(unittest.TestCase):
    def check(self, sheet, terms):
        before = copy.deepcopy(sheet)
        self.assertEqual([told(sheet, n) for n in range(2 * len(sheet))], terms)
        self.assertEqual(sheet, before)

    def test_each_kind_of_row(self):
        self.check([NONE], [NONE, ALL])
        self.check([NONE, A, B], [NONE, ALL, A, NOT_A, B, NOT_B])
        self.check(
            sheet_of([("both", A, NOT_B)]),
            [NONE, ALL, A, NOT_A, B, NOT_B, ("both", A, NOT_B), ("either", NOT_A, B)],
        )
        self.check([NONE, ("both", 0, 1)], [NONE, ALL, ("both", NONE, ALL), ("either", ALL, NONE)])
        self.check([NONE, A, ("both", 2, 2)], [NONE, ALL, A, NOT_A, ("both", A, A), ("either", NOT_A, NOT_A)])

    def test_boths_of_boths(self):
        sheet = sheet_of([("both", A, B, C), ("either", A, ("both", B, ALL)), NONE])
        ab = ("both", A, B)
        not_ab = ("either", NOT_A, NOT_B)
        b_all = ("both", B, ALL)
        not_b_all = ("either", NOT_B, NONE)
        self.check(sheet, [
            NONE, ALL, A, NOT_A, B, NOT_B, ab, not_ab, C, NOT_C, ("both", ab, C), ("either", not_ab, NOT_C),
            b_all, not_b_all, ("both", NOT_A, not_b_all), ("either", A, b_all),
        ])

    def test_told_terms_have_their_number(self):
        chance = random.Random(13)
        for run in range(200):
            sheet = sheet_of([some_term(chance, 2) for many in range(chance.randint(0, 3))])
            terms = [told(sheet, n) for n in range(2 * len(sheet))]
            self.assertEqual([number(sheet, t) for t in terms], list(range(2 * len(sheet))))
            self.assertEqual(sheet_of(terms), sheet)
            for t in terms:
                for part in parts_in(t):
                    self.assertLessEqual(len(part), 3)
                    self.assertTrue(part[0] != "not" or part[1][0] == "name")

    def test_deep(self):
        parts = [A] * 39
        sheet = sheet_of([("both", *parts)])
        self.assertEqual(told(sheet, 78), left_both(parts))
        deep = told(sheet, 79)
        self.assertEqual(number(sheet, deep), 79)
        self.assertEqual(sheet_of([deep]), sheet)

    def test_rows_behind_do_not_count(self):
        sheet = sheet_of([("both", A, B), C])
        for rows in range(4, 6):
            self.assertEqual(told(sheet[:rows], 6), ("both", A, B))


class Numbered(unittest.TestCase):
    def check(self, sheet, book, rules):
        before = copy.deepcopy((sheet, book))
        found = numbered(sheet, book)
        self.assertEqual(found, rules)
        self.assertEqual((sheet, book), before)
        self.assertIs(found.__class__, list)
        for rule in found:
            self.assertEqual((rule.__class__, rule[0].__class__), (tuple, list))
            for pair in rule[0] + [rule[1]]:
                self.assertIs(pair.__class__, tuple)

    def test_no_rules(self):
        self.check([NONE], [], [])

    def test_none_to_five_premises(self):
        sheet = sheet_of([("both", A, B), C])
        sayings = [(B, NOT_A), (ALL, ("both", A, B)), (NOT_C, NONE), (("either", NOT_A, NOT_B), C), (A, A)]
        pairs = [(4, 3), (1, 6), (9, 0), (7, 8), (2, 2)]
        for many in range(6):
            self.check(sheet, [(sayings[:many], (A, C))], [(pairs[:many], (2, 8))])
            self.check(sheet, [(sayings[::-1][:many], (C, A))], [(pairs[::-1][:many], (8, 2))])
        self.check(sheet, [(sayings, (A, C))] * 3, [(pairs, (2, 8))] * 3)

    def test_rules_in_their_order(self):
        sheet = [NONE, A, B, C]
        book = [([], (C, B)), ([(A, B), (A, B)], (B, A)), ([], (C, B)), ([(C, C)], (NONE, ALL))]
        self.check(sheet, book, [([], (6, 4)), ([(2, 4), (2, 4)], (4, 2)), ([], (6, 4)), ([(6, 6)], (0, 1))])

    def test_what_is_told_is_the_askers_own(self):
        sheet = [NONE, A, B]
        rule = ([(A, B)], (B, A))
        bare = ([], (A, A))
        book = [rule, rule, bare, bare]
        first = numbered(sheet, book)
        self.assertIsNot(first[0][0], first[1][0])
        self.assertIsNot(first[2][0], first[3][0])
        for told_rule in first:
            told_rule[0].append((0, 0))
        first.clear()
        self.check(sheet, book, [([(2, 4)], (4, 2))] * 2 + [([], (2, 2))] * 2)

    def test_nothing_is_kept(self):
        sheet = [NONE, A, B]
        book = [([(A, B)], (B, A))]
        found = numbered(sheet, book)
        book[0][0].append((A, A))
        book.append(([], (A, B)))
        sheet[1] = C
        self.assertEqual(found, [([(2, 4)], (4, 2))])


if __name__ == "__main__":
    unittest.main()
