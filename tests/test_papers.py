"""Point 17: the paper of a pair, and the rules that lines lean on."""

import copy
import random
import unittest

from samples import A, B, C, D, NONE, lines_in, pairs_of, some_rules, some_sheet
from clashbook.closing import closing
from clashbook.papers import leans, paper
from clashbook.steps import sound

# Numbers: a 2 3, b 4 5, c 6 7, d 8 9, both(b, c) 10 11.
SHEET = [NONE, A, B, C, D, ("both", 4, 6)]
RULES = [([], (2, 4)), ([], (6, 8)), ([(2, 4), (2, 10), (2, 4)], (8, 2)), ([], (4, 6)), ([], (8, 9))]
LINES = [
    (6, 6, ("same",)),              # 0
    (6, 8, ("rule", 1, ())),        # 1
    (2, 4, ("rule", 0, ())),        # 2
    (9, 7, ("turn", 1)),            # 3
    (4, 6, ("rule", 3, ())),        # 4
    (2, 6, ("chain", 2, 4)),        # 5
    (8, 9, ("rule", 4, ())),        # 6
    (2, 10, ("both", 2, 5)),        # 7
    (8, 0, ("clash", 6)),           # 8
    (8, 2, ("rule", 2, (2, 7, 2))), # 9
    (6, 2, ("chain", 1, 9)),        # 10
    (10, 4, ("part",)),             # 11
    (0, 9, ("edge",)),              # 12
]


def hangs(lines, k):
    """All lines on which line k hangs, and itself, by going down from each why."""
    found = {k}
    for p in lines_in(lines[k][2]):
        found |= hangs(lines, p)
    return found


class Papers(unittest.TestCase):
    def check(self, lines, i, j, asked):
        before = copy.deepcopy(lines)
        told = paper(lines, i, j)
        self.assertEqual(lines, before)
        self.assertEqual(told, asked)
        return told

    def test_the_lines_are_sound(self):
        self.assertTrue(sound(SHEET, RULES, LINES))

    def test_a_line_that_hangs_on_none(self):
        self.check(LINES, 6, 6, [(6, 6, ("same",))])
        self.check(LINES, 0, 9, [(0, 9, ("edge",))])
        self.check(LINES, 10, 4, [(10, 4, ("part",))])
        self.check(LINES, 8, 9, [(8, 9, ("rule", 4, ()))])

    def test_a_line_that_hangs_on_one(self):
        self.check(LINES, 9, 7, [(6, 8, ("rule", 1, ())), (9, 7, ("turn", 0))])
        self.check(LINES, 8, 0, [(8, 9, ("rule", 4, ())), (8, 0, ("clash", 0))])

    def test_lines_that_hang_on_several(self):
        chain = [(2, 4, ("rule", 0, ())), (4, 6, ("rule", 3, ())), (2, 6, ("chain", 0, 1))]
        self.check(LINES, 2, 6, chain)
        self.check(LINES, 2, 10, chain + [(2, 10, ("both", 0, 2))])
        self.check(LINES, 8, 2, chain + [(2, 10, ("both", 0, 2)), (8, 2, ("rule", 2, (0, 3, 0)))])

    def test_a_rules_number_stays(self):
        self.check(LINES, 6, 2, [
            (6, 8, ("rule", 1, ())), (2, 4, ("rule", 0, ())), (4, 6, ("rule", 3, ())), (2, 6, ("chain", 1, 2)),
            (2, 10, ("both", 1, 3)), (8, 2, ("rule", 2, (1, 4, 1))), (6, 2, ("chain", 0, 5)),
        ])
        far = [(0, 2, ("edge",)), (2, 2, ("same",)), (2, 4, ("rule", 7, (1, 1)))]
        self.check(far, 2, 4, [(2, 2, ("same",)), (2, 4, ("rule", 7, (0, 0)))])

    def test_no_line_for_the_pair(self):
        for i, j in ((6, 4), (4, 2), (10, 2), (6, 9), (99, 0), (-6, 6), (6, -6)):
            self.check(LINES, i, j, None)
        self.check([], 0, 0, None)

    def test_one_line_twice_in_a_why(self):
        lines = [(2, 4, ("rule", 0, ())), (4, 4, ("same",)), (2, 2, ("same",)), (2, 2 * 9, ("both", 2, 2))]
        self.check(lines, 2, 18, [(2, 2, ("same",)), (2, 18, ("both", 0, 0))])

    def check_papers(self, sheet, rules, lines):
        places = {line[:2]: k for k, line in enumerate(lines)}
        for i in range(2 * len(sheet)):
            for j in range(2 * len(sheet)):
                told = paper(lines, i, j)
                self.assertEqual(told is None, (i, j) not in places)
                if told is not None:
                    self.check_paper(sheet, rules, lines, places[(i, j)], told)

    def check_paper(self, sheet, rules, lines, k, told):
        self.assertIs(told.__class__, list)
        self.assertTrue(sound(sheet, rules, told))
        self.assertEqual(pairs_of(told), [lines[p][:2] for p in sorted(hangs(lines, k))])
        named = {p for line in told for p in lines_in(line[2])}
        self.assertEqual(named, set(range(len(told) - 1)))

    def test_the_papers_of_closings(self):
        chance = random.Random(17)
        for run in range(40):
            sheet = some_sheet(chance, chance.randint(1, 5))
            rules = some_rules(chance, sheet, 5)
            self.check_papers(sheet, rules, closing(sheet, rules))

    def test_each_paper_is_a_new_list(self):
        first = paper(LINES, 6, 6)
        first.append("more")
        self.assertEqual(paper(LINES, 6, 6), [(6, 6, ("same",))])
        lines = [(2, 2, ("same",))]
        self.assertIsNot(paper(lines, 2, 2), lines)

    def test_a_long_chain(self):
        lines = [(2, 2, ("same",))] + [(2, 2 * k, ("turn", k - 2)) for k in range(2, 3000)]
        told = paper(lines, 2, 2 * 2999)
        self.assertEqual(told, lines)


class Leans(unittest.TestCase):
    def check(self, lines, asked):
        before = copy.deepcopy(lines)
        told = leans(lines)
        self.assertEqual(lines, before)
        self.assertIs(told.__class__, list)
        self.assertEqual(told, asked)

    def test_none(self):
        self.check([], [])
        self.check([(2, 2, ("same",)), (0, 3, ("edge",)), (2, 2, ("chain", 0, 0)), (3, 3, ("turn", 0))], [])

    def test_rising_each_once(self):
        self.check(LINES, [0, 1, 2, 3, 4])
        self.check(LINES[3:4] + LINES[4:5], [3])
        self.check([LINES[6], LINES[1], LINES[6], LINES[2], LINES[1]], [0, 1, 4])
        self.check([(2, 4, ("rule", n, ())) for n in (11, 10, 2, 9, 100, 10, 0)], [0, 2, 9, 10, 11, 100])

    def test_numbers_of_lines_are_no_rules(self):
        self.check([LINES[9]], [2])
        self.check([(2, 2, ("same",)), (2, 2, ("both", 0, 0)), (2, 4, ("rule", 5, (0, 1, 0)))], [5])

    def test_the_rules_of_papers(self):
        for i, j, asked in ((6, 6, []), (9, 7, [1]), (2, 6, [0, 3]), (8, 2, [0, 2, 3]), (6, 2, [0, 1, 2, 3]), (8, 0, [4])):
            self.check(paper(LINES, i, j), asked)

    def test_each_answer_is_a_new_list(self):
        leans(LINES).append(9)
        self.assertEqual(leans(LINES), [0, 1, 2, 3, 4])


if __name__ == "__main__":
    unittest.main()
