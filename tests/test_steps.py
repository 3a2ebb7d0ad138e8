"""Points 14 and 15: the eight steps, what is no step, and sound lists of lines."""

import copy
import itertools
import random
import unittest

from samples import A, B, C, NONE, pairs_of, some_rules, some_sheet, steps_by_hand
from clashbook.closing import closing
from clashbook.steps import is_step, sound

# Numbers: a 2 3, b 4 5, both(a, b) 6 7, both(not b, a) 8 9, c 10 11, both(c, c) 12 13.
SHEET = [NONE, A, B, ("both", 2, 4), ("both", 5, 2), C, ("both", 10, 10)]
LAST = 13
SAME = ("same",)
RULES = [
    ([], (2, 4)),
    ([(4, 10)], (2, 10)),
    ([(2, 4), (4, 10)], (10, 3)),
    ([(4, 10), (2, 4), (4, 10)], (2, 2)),
    ([(2, 4), (4, 10), (2, 10), (10, 3), (2, 2)], (1, 0)),
]
# Lines ahead; their own whys are no steps, since is_step doesn't look at them.
AHEAD = [(i, j, ("no", "step")) for i, j in [(2, 4), (4, 10), (2, 10), (10, 3), (2, 2), (2, 3), (13, 5), (10, 10)]]


class Steps(unittest.TestCase):
    def check(self, line, asked, ahead=AHEAD, behind=(), rules=RULES, sheet=SHEET):
        lines = list(ahead) + [line] + list(behind)
        handed = (sheet, rules, lines)
        before = copy.deepcopy(handed)
        self.assertIs(is_step(sheet, rules, lines, len(ahead)), asked, line)
        self.assertEqual(handed, before)

    def held(self, i, j, why):
        self.check((i, j, why), True)

    def missed(self, i, j, *whys):
        for why in whys:
            self.check((i, j, why), False)

    def check_numbers(self, i, j, why):
        """A step with one thing of it changed: i, j, each line's number, and how many things there are."""
        self.held(i, j, why)
        for n in (-14, -2, -1, LAST + 1, LAST + 2, 100):
            self.missed(n, j, why)
            self.missed(i, n, why)
        for place in range(1, len(why)):
            for p in (len(AHEAD), len(AHEAD) + 1, 99, -1, why[place] - len(AHEAD), why[place] - len(AHEAD) - 1):
                self.check((i, j, why[:place] + (p,) + why[place + 1:]), False, behind=AHEAD)
        self.missed(i, j, (), why[1:], why + (0,), why + (1, 2), why + ("same",), ("",) + why[1:], ("Same",) + why[1:])
        self.missed(i, j, (why[0] + "s",) + why[1:], (why[0].upper(),) + why[1:])
        if len(why) > 1:
            self.missed(i, j, why[:-1], why[:1], (why[0], why[1:]))


class IsStep(Steps):
    def test_same(self):
        self.check_numbers(4, 4, SAME)
        for i, j in itertools.product(range(LAST + 1), repeat=2):
            self.check((i, j, SAME), i == j)
        for n in (-2, -1, LAST + 1, 1000):
            self.missed(n, n, SAME)

    def test_edge(self):
        self.check_numbers(0, 4, ("edge",))
        self.check_numbers(4, 1, ("edge",))
        for i, j in itertools.product(range(LAST + 1), repeat=2):
            self.check((i, j, ("edge",)), i == 0 or j == 1)

    def test_part(self):
        self.check_numbers(6, 2, ("part",))
        parts = {6: (2, 4), 8: (5, 2), 12: (10,)}
        for i, j in itertools.product(range(LAST + 1), repeat=2):
            self.check((i, j, ("part",)), j in parts.get(i, ()))

    def test_both(self):
        ahead = [(2, 2, ()), (2, 4, ()), (2, 5, ()), (3, 4, ()), (4, 2, ()), (2, 10, ())]
        for why, j in ((("both", 0, 1), 6), (("both", 2, 0), 8), (("both", 5, 5), 12)):
            self.check((2, j, why), True, ahead)
            for other in set(range(LAST + 1)) - {j}:
                self.check((2, other, why), False, ahead)
            for i in set(range(LAST + 1)) - {2}:
                self.check((i, j, why), False, ahead)
        for p, q in itertools.product(range(6), repeat=2):
            self.check((2, 6, ("both", p, q)), (p, q) == (0, 1), ahead)
            self.check((2, 8, ("both", p, q)), (p, q) == (2, 0), ahead)
            self.check((2, 12, ("both", p, q)), (p, q) == (5, 5), ahead)
        for why in (("both",), ("both", 0), ("both", 0, 1, 1), ("both", (0, 1)), ("both", 0, 6), ("both", 7, 1), ("both", -6, 1),
                    ("both", 0, -5)):
            self.check((2, 6, why), False, ahead, ahead)

    def test_both_of_one_line_twice(self):
        self.check_numbers(2, 12, ("both", 2, 2))

    def test_turn(self):
        self.check_numbers(5, 3, ("turn", 0))
        self.check_numbers(4, 12, ("turn", 6))
        for i, j in itertools.product(range(LAST + 1), repeat=2):
            self.check((i, j, ("turn", 0)), (i, j) == (5, 3))
            self.check((i, j, ("turn", 5)), (i, j) == (2, 3))

    def test_chain(self):
        self.check_numbers(2, 10, ("chain", 0, 1))
        self.check_numbers(10, 10, ("chain", 7, 7))
        for p, q in itertools.product(range(len(AHEAD)), repeat=2):
            for i, j in itertools.product(range(LAST + 1), repeat=2):
                asked = AHEAD[p][0] == i and AHEAD[p][1] == AHEAD[q][0] and AHEAD[q][1] == j
                self.check((i, j, ("chain", p, q)), asked)

    def test_clash(self):
        self.check_numbers(2, 13, ("clash", 5))
        for p, i, j in itertools.product(range(len(AHEAD)), range(LAST + 1), range(LAST + 1)):
            self.check((i, j, ("clash", p)), p == 5 and i == 2)

    def test_clash_of_odd_numbers(self):
        ahead = [(9, 8, ())]
        for j in range(LAST + 1):
            self.check((9, j, ("clash", 0)), True, ahead)
            self.check((8, j, ("clash", 0)), False, ahead)

    def test_rule(self):
        good = {0: (), 1: (1,), 2: (0, 1), 3: (1, 0, 1), 4: (0, 1, 2, 3, 4)}
        for r, ps in good.items():
            i, j = RULES[r][1]
            self.held(i, j, ("rule", r, ps))
            for other in set(range(-6, 7)) - {r}:
                self.missed(i, j, ("rule", other, ps))
            for n in set(range(-2, LAST + 3)):
                self.check((n, j, ("rule", r, ps)), n == i)
                self.check((i, n, ("rule", r, ps)), n == j)
            self.missed(i, j, ("rule", r), ("rule",), ("rule", r, ps, ()), ("rule", r, ps, 0), ("rule", r, ps + (0,)))
            self.missed(i, j, ("rule", r) + ps + (0,), ("rules", r, ps), ("Rule", r, ps), (r, ps), ("rule", ps, r))
            for place in range(len(ps)):
                for p in set(range(-20, 20)) - {ps[place]}:
                    self.check((i, j, ("rule", r, ps[:place] + (p,) + ps[place + 1:])), False, behind=AHEAD)
                self.missed(i, j, ("rule", r, ps[:place] + ps[place + 1:]))

    def test_premises_in_their_order(self):
        for ps in itertools.product(range(len(AHEAD)), repeat=2):
            self.check((10, 3, ("rule", 2, ps)), ps == (0, 1))
        for ps in itertools.product(range(len(AHEAD)), repeat=3):
            self.check((2, 2, ("rule", 3, ps)), ps == (1, 0, 1))

    def test_two_lines_for_one_premise(self):
        ahead = [(4, 10, ()), (2, 4, ()), (4, 10, ())]
        for ps in itertools.product(range(3), repeat=3):
            self.check((2, 2, ("rule", 3, ps)), ps[1] == 1 and ps[0] != 1 and ps[2] != 1, ahead)

    def test_no_rules(self):
        self.check((2, 4, ("rule", 0, ())), False, rules=[])
        self.check((2, 4, ("rule", -1, ())), False, rules=[])

    def test_the_first_line(self):
        self.check((2, 2, SAME), True, ahead=())
        self.check((2, 4, ("rule", 0, ())), True, ahead=())
        for p in (-2, -1, 0, 1, 2):
            behind = [(2, 4, ()), (4, 10, ()), (2, 3, ())]
            self.check((5, 3, ("turn", p)), False, ahead=(), behind=behind)
            self.check((3, 2, ("turn", p)), False, ahead=(), behind=behind)
            self.check((2, 3, ("clash", p)), False, ahead=(), behind=behind)
            self.check((2, 10, ("rule", 1, (p,))), False, ahead=(), behind=behind)

    def test_a_truth_is_no_whole_number(self):
        self.check((2, 10, ("chain", False, True)), False)
        self.check((5, 3, ("turn", False)), False)
        self.check((2, 4, ("rule", False, ())), False)
        self.check((2, 10, ("rule", 1, (True,))), False)
        self.check((False, 4, ("edge",)), False)
        self.check((4, True, ("edge",)), False)

    def test_lines_ahead_are_not_looked_at(self):
        ahead = [(2, 99, ("same",)), (99, 4, ("turn", -5)), (-7, 3, ()), (2, 5, ("rule", 77, (1, 2, 3)))]
        self.check((2, 4, ("chain", 0, 1)), True, ahead)
        self.check((4, 3, ("turn", 3)), True, ahead)
        self.check((2, 6, ("turn", 2)), False, ahead)

    def test_lines_behind_do_not_count(self):
        for behind in ((), AHEAD, [(-5, 88, ("what",))]):
            self.check((2, 10, ("chain", 0, 1)), True, behind=behind)
            self.check((2, 9, ("chain", 0, 1)), False, behind=behind)

    def test_no_such_line(self):
        lines = [(2, 2, SAME)]
        self.assertIs(is_step(SHEET, RULES, lines, 0), True)
        for k in (-1, 1, 2):
            self.assertIs(is_step(SHEET, RULES, lines, k), False)

    def test_by_hand(self):
        chance = random.Random(14)
        for run in range(40):
            sheet = some_sheet(chance, chance.randint(1, 4))
            many = 2 * len(sheet)
            rules = some_rules(chance, sheet, 3)
            ahead = [(chance.randrange(many), chance.randrange(many), ("no",)) for line in range(chance.randint(0, 4))]
            steps = steps_by_hand(sheet, rules, pairs_of(ahead))
            ps = range(-1, len(ahead) + 2)
            whys = [(word,) for word in ("same", "edge", "part", "both", "turn", "chain", "clash", "rule")]
            whys += [(word, p) for word in ("both", "turn", "chain", "clash", "same") for p in ps]
            whys += [(word, p, q) for word in ("both", "chain", "turn") for p in ps for q in ps]
            whys += [("rule", r, way) for r in range(-1, len(rules) + 1) for many_ps in range(3)
                     for way in itertools.product(ps, repeat=many_ps)]
            for i, j in itertools.product(range(-1, many + 1), repeat=2):
                for why in whys:
                    lines = ahead + [(i, j, why)]
                    self.assertIs(is_step(sheet, rules, lines, len(ahead)), (i, j, why) in steps, (sheet, rules, lines))


class Sound(unittest.TestCase):
    def check(self, lines, asked, rules=RULES, sheet=SHEET):
        handed = (sheet, rules, lines)
        before = copy.deepcopy(handed)
        self.assertIs(sound(sheet, rules, lines), asked, lines)
        self.assertEqual(handed, before)

    # Each line but the last is needed by a later one.
    def good(self):
        return [
            (6, 4, ("part",)), (2, 4, ("rule", 0, ())), (2, 2, SAME), (2, 6, ("both", 2, 1)), (7, 3, ("turn", 3)),
            (2, 4, ("chain", 3, 0)), (5, 3, ("turn", 5)), (7, 3, ("chain", 4, 8)),
        ]

    def test_the_empty_list(self):
        self.check([], True)
        self.check([], True, [], [NONE])

    def test_one_line(self):
        self.check([(3, 3, SAME)], True)
        self.check([(3, 2, SAME)], False)
        self.check([(14, 14, SAME)], False)
        self.check([(2, 4, ("rule", 0, ()))], True)
        self.check([(2, 4, ("rule", 0, ()))], False, [])

    def test_a_paper(self):
        lines = self.good()[:7]
        self.check(lines, True)
        for many in range(8):
            self.check(lines[:many], True)
        self.check(self.good(), False)
        self.check(lines + [(3, 3, SAME), (7, 3, ("chain", 4, 7))], True)

    def test_one_line_taken_out(self):
        lines = self.good()[:7]
        for place in range(6):
            self.check(lines[:place] + lines[place + 1:], False)

    def test_lines_exchanged(self):
        lines = self.good()[:7]
        for place, other in ((0, 1), (1, 3), (2, 3), (3, 4), (3, 5), (5, 6), (0, 6)):
            changed = list(lines)
            changed[place] = lines[other]
            changed[other] = lines[place]
            self.check(changed, False)
        self.check([lines[1], (4, 4, SAME), (2, 4, ("chain", 0, 1))], True)
        self.check([(4, 4, SAME), lines[1], (2, 4, ("chain", 0, 1))], False)

    def test_one_line_changed(self):
        lines = self.good()[:7]
        for place, line in enumerate(lines):
            for changed in ((line[0], line[1], ()), (line[0], line[1], ("what",)), (-1, line[1], line[2]),
                            (line[0], 14, line[2]), (line[0] ^ 1, line[1], line[2]), (line[0], line[1] ^ 1, line[2]),
                            (line[0], line[1], line[2] + (0,))):
                self.check(lines[:place] + [changed] + lines[place + 1:], False)

    def test_lines_that_stand_on_one_another(self):
        self.check([(2, 5, ("turn", 1)), (4, 3, ("turn", 0))], False)
        self.check([(2, 5, ("turn", 0))], False)
        self.check([(4, 3, ("turn", 1)), (2, 5, ("chain", 1, 1))], False)

    def test_a_pair_may_come_twice(self):
        self.check([(0, 0, SAME), (0, 0, ("edge",)), (0, 0, SAME), (0, 0, ("chain", 1, 2))], True)

    def test_by_hand(self):
        chance = random.Random(15)
        for run in range(60):
            sheet = some_sheet(chance, chance.randint(2, 5))
            rules = some_rules(chance, sheet, 3)
            lines = closing(sheet, rules)[:30]
            self.check(lines, True, rules, sheet)
            place = chance.randrange(len(lines))
            changed = list(lines)
            changed[place] = (chance.randrange(2 * len(sheet)), lines[place][1], lines[place][2])
            asked = all(line in steps_by_hand(sheet, rules, pairs_of(changed[:k])) for k, line in enumerate(changed))
            self.check(changed, asked, rules, sheet)


if __name__ == "__main__":
    unittest.main()
