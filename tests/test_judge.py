"""Points 6 and 20: just one of two is told, with a paper or with a world."""

import copy
import itertools
import random
import unittest

from checks import Checks, names, spoil, terms_in_order
from samples import A, ALL, B, NONE, counter_by_hand, holds_by_hand, some_rule, some_saying
from clashbook.errors import TooMuch
from clashbook.judge import judge
from clashbook.papers import leans
from clashbook.sheets import sheet_of
from clashbook.texts import read_rule, read_saying


def small_worlds():
    """All worlds of at most three spots with a set for a and for b."""
    for many in (1, 2, 3):
        pairs = list(itertools.combinations(range(many), 2))
        for bits in itertools.product((False, True), repeat=len(pairs)):
            clashes = list(itertools.compress(pairs, bits))
            sets = [list(itertools.compress(range(many), each)) for each in itertools.product((0, 1), repeat=many)]
            full = sorted({tuple(sorted(counter_by_hand(many, clashes, spots))) for spots in sets})
            for a, b in itertools.product(full, repeat=2):
                yield (many, clashes, [("a", list(a)), ("b", list(b))])


class Judge(Checks):
    def settle(self, book, saying):
        """Whether a saying follows; the paper or the world that says so is looked at on the way."""
        before = copy.deepcopy((book, saying))
        answer = judge(book, saying)
        self.assertEqual((book, saying), before)
        self.assertIs(answer.__class__, tuple)
        self.assertEqual(len(answer), 3)
        if answer[0] == "follows":
            self.assertEqual(answer[1], sheet_of(terms_in_order(book, saying)))
            self.check_paper(book, saying, answer[1], answer[2])
        else:
            self.assertEqual(answer[0], "open")
            self.check_world(book, saying, answer[1], answer[2])
        return answer[0] == "follows"

    def check(self, book, saying, asked):
        rules = [read_rule(text) for text in book]
        self.assertIs(self.settle(rules, read_saying(saying)), asked, (book, saying))

    def test_the_empty_book(self):
        for saying, asked in (
            ("none < none", True), ("none < all", True), ("all < all", True), ("all < none", False), ("a < a", True),
            ("a < b", False), ("a < none", False), ("all < a", False), ("a < !a", False), ("!!a < a", True),
            ("(a & !a) < none", True), ("all < (a | !a)", True), ("(a & b & c) < (c & a)", True),
            ("(a & (b | c)) < ((a & b) | (a & c))", False), ("((a & b) | (a & c)) < (a & (b | c))", True),
            ("!(a | b) < (!b & !a)", True), ("(a & b) < (a | b)", True), ("(a | b) < (a & b)", False),
            ("a < ((a & b) | (a & !b))", False), ("(a | (!a & (a | b))) < (a | b)", True),
            ("(a | b) < (a | (!a & (a | b)))", False), ("(a & !(a & b) & b) < c", True),
        ):
            self.check([], saying, asked)

    def test_rules(self):
        self.check(["a < b"], "a < b", True)
        self.check(["a < b"], "b < a", False)
        self.check(["a < b", "b < c", "c < d"], "a < d", True)
        self.check(["a < b", "b < c", "c < d"], "d < a", False)
        self.check(["a < b", "b < c"], "!c < !a", True)
        self.check(["a < b", "a < b"], "a < b", True)
        self.check(["all < none"], "a < b", True)
        self.check(["a < !a"], "a < none", True)
        self.check(["a < b", "a < !b"], "a < c", True)
        self.check(["(a | b) < c"], "a < c", True)
        self.check(["none < a", "b < all"], "b < a", False)
        self.check(["a < (b | c)", "b < d", "c < d"], "a < d", True)
        self.check(["all < (a | b)", "a < !c"], "c < b", False)

    def test_rules_with_premises(self):
        self.check(["a < b => b < c"], "b < c", False)
        self.check(["a < b => b < c", "a < b"], "b < c", True)
        self.check(["a < b => b < c", "a < b"], "a < c", True)
        self.check(["a < b, b < c => c < a"], "c < a", False)
        self.check(["a < b, b < c => c < a", "a < b"], "c < a", False)
        self.check(["a < b, b < c => c < a", "b < c", "a < b"], "c < a", True)
        self.check(["a < a => a < b"], "a < b", True)
        self.check(["a < b => all < none"], "a < b", False)
        self.check(["a < b => all < none", "a < b"], "c < d", True)
        self.check(["a < b, c < d, a < d, c < b, a < a => b < d", "a < b", "c < d", "a < d", "c < b"], "b < d", True)
        self.check(["a < b, c < d, a < d, c < b, a < a => b < d", "a < b", "c < d", "c < b"], "b < d", False)
        # Neither of two premises need hold: so no case of either leads on.
        self.check(["a < b => c < d", "b < a => c < d"], "c < d", False)

    def test_names_of_the_rules_alone_are_in_the_world(self):
        book = [read_rule("d < c"), read_rule("e < f, none < g => all < (h | all)")]
        answer = judge(book, (A, B))
        self.assertEqual(answer[0], "open")
        self.assertLessEqual(set("abcdefgh"), {name for name, spots in answer[1][2]})
        self.check_world(book, (A, B), answer[1], answer[2])

    def test_the_sheets_order(self):
        book = [read_rule("d < c, b < (a & b) => !a < e"), read_rule("f < d")]
        sheet = judge(book, read_saying("f < (d | h)"))[1]
        self.assertEqual(sheet, [
            NONE, ("name", "d"), ("name", "c"), ("name", "b"), ("name", "a"), ("both", 8, 6), ("name", "e"), ("name", "f"),
            ("name", "h"), ("both", 3, 17),
        ])

    def test_papers_lean_on_what_they_need(self):
        book = [read_rule(text) for text in ("c < d", "a < b", "d < a", "a < b => b < c")]
        self.assertEqual(leans(judge(book, read_saying("a < c"))[2]), [1, 3])
        self.assertEqual(leans(judge(book, read_saying("a < a"))[2]), [])

    def test_many_books(self):
        chance = random.Random(21)
        seen = []
        for run in range(300):
            book = [some_rule(chance, chance.choice((0, 0, 1, 2))) for rule in range(chance.randint(0, 4))]
            saying = some_saying(chance, chance.choice((0, 1, 2)))
            try:
                seen.append(self.settle(book, saying))
            except TooMuch:
                with self.assertRaises(TooMuch):
                    sheet_of(terms_in_order(book, saying))
        self.assertGreater(seen.count(True), 60)
        self.assertGreater(seen.count(False), 60)

    # What follows holds wherever the rules do: the small worlds are all looked at.
    def test_small_worlds(self):
        worlds = list(small_worlds())
        leaves = (NONE, ALL, A, B, ("not", A), ("either", A, B))
        for rule, saying in itertools.product(itertools.product(leaves, repeat=2), repeat=2):
            held = all(holds_by_hand(world, saying) for world in worlds if holds_by_hand(world, rule))
            follows = judge([([], rule)], saying)[0] == "follows"
            self.assertLessEqual(follows, held)

    def test_forty_rows(self):
        twenty = names(20)
        whole = ("both", *twenty)
        self.assertEqual(len(sheet_of([whole])), 40)
        self.assertIs(self.settle([], (whole, twenty[7])), True)
        self.assertIs(self.settle([], (twenty[7], whole)), False)
        self.assertIs(self.settle([([], (twenty[0], twenty[k])) for k in range(1, 13)], (twenty[0], whole)), False)
        self.assertIs(self.settle([([], (ALL, ("both", *twenty[:12]))), ([], (ALL, twenty[19]))], (ALL, twenty[5])), True)
        chain = [([], (one, other)) for one, other in zip(twenty[:12], twenty[1:13])]
        self.assertIs(self.settle(chain, (twenty[0], ("either", twenty[12], *twenty[13:], twenty[1]))), True)
        shared = (("both", *twenty[:11]), ("either", *twenty[10:]))
        self.assertEqual(len(sheet_of(shared)), 40)
        self.assertIs(self.settle([], shared), True)

    def test_forty_one_rows_are_refused(self):
        twenty = names(20)
        for book, saying in (
            ([], (("both", *twenty), A)),
            ([], (A, ("both", *twenty))),
            ([], (A, ("either", *twenty))),
            ([], (("both", *twenty, twenty[0]), A)),
            ([([], (NONE, ("both", *twenty)))], (A, NONE)),
            ([([(NONE, ("both", *twenty))], (NONE, NONE))], (NONE, A)),
            ([([], (A, ("both", *twenty)))], (NONE, NONE)),
        ):
            before = copy.deepcopy((book, saying))
            with self.assertRaises(TooMuch):
                judge(book, saying)
            self.assertEqual((book, saying), before)

    def test_larger_books_and_rules(self):
        chain = [([], (one, other)) for one, other in itertools.pairwise(names(16))]
        first, last = names(16)[0], names(16)[-1]
        self.assertIs(self.settle(chain, (first, last)), True)
        self.assertIs(self.settle(chain[1:], (first, last)), False)
        book = chain[:8] + [([rule[1] for rule in chain[:8]], (ALL, NONE))]
        self.assertIs(self.settle(book, (last, first)), True)
        self.assertIs(self.settle(book[1:], (last, first)), False)

    def test_the_lists_are_the_askers_own(self):
        book = [read_rule("a < b => b < c")]
        for saying in (read_saying("b < c"), read_saying("(b & c) < c")):
            first = judge(book, saying)
            kept = copy.deepcopy(first)
            second = judge(book, saying)
            self.assertEqual(second, kept)
            spoil(first)
            self.assertEqual(second, kept)
            self.assertEqual(judge(book, saying), kept)
            book[0][0].append((A, B))
            self.assertEqual(second, kept)


if __name__ == "__main__":
    unittest.main()
