"""Point 8: how terms, sayings and rules are written, to the sign."""

import copy
import unittest

from clashbook.texts import shown, shown_rule, shown_saying

NONE = ("none",)
ALL = ("all",)
A, B, C, D = [("name", name) for name in "abcd"]


class Shown(unittest.TestCase):
    def test_leaves(self):
        self.assertEqual(shown(NONE), "none")
        self.assertEqual(shown(ALL), "all")
        self.assertEqual(shown(A), "a")
        self.assertEqual(shown(("name", "abcdefgh")), "abcdefgh")
        for name in ("name", "not", "both", "either"):
            self.assertEqual(shown(("name", name)), name)

    def test_not(self):
        self.assertEqual(shown(("not", A)), "!a")
        self.assertEqual(shown(("not", NONE)), "!none")
        self.assertEqual(shown(("not", ("not", ("not", ALL)))), "!!!all")
        self.assertEqual(shown(("not", ("both", A, B))), "!(a & b)")

    def test_both_and_either(self):
        self.assertEqual(shown(("both", A, B)), "(a & b)")
        self.assertEqual(shown(("either", A, B)), "(a | b)")
        self.assertEqual(shown(("both", C, A, NONE, A)), "(c & a & none & a)")
        self.assertEqual(shown(("either", ALL, C, B, A, D)), "(all | c | b | a | d)")

    def test_the_documents_own(self):
        t = ("both", A, ("not", B), ("either", C, NONE))
        self.assertEqual(shown(t), "(a & !b & (c | none))")

    def test_parts_of_the_same_kind_keep_their_brackets(self):
        self.assertEqual(shown(("both", A, ("both", B, C))), "(a & (b & c))")
        self.assertEqual(shown(("both", ("both", A, B), C)), "((a & b) & c)")
        self.assertEqual(shown(("either", ("either", A, B), ("either", C, D))), "((a | b) | (c | d))")

    def test_deep_and_wide(self):
        t = A
        for step in range(60):
            t = ("both", t, ("not", B))
        self.assertEqual(shown(t), "(" * 60 + "a" + " & !b)" * 60)
        wide = ("either", *[("name", "abcdefgh")] * 60)
        self.assertEqual(shown(wide), "(" + " | ".join(["abcdefgh"] * 60) + ")")


class ShownSaying(unittest.TestCase):
    def test_sayings(self):
        self.assertEqual(shown_saying((A, B)), "a < b")
        self.assertEqual(shown_saying((B, A)), "b < a")
        self.assertEqual(shown_saying((NONE, ALL)), "none < all")
        self.assertEqual(shown_saying((("both", A, B), ("not", C))), "(a & b) < !c")
        self.assertEqual(shown_saying((("not", ("either", A, B)), A)), "!(a | b) < a")


class ShownRule(unittest.TestCase):
    def test_no_premise(self):
        self.assertEqual(shown_rule(([], (A, NONE))), "a < none")
        self.assertEqual(shown_rule(([], (("both", A, B), C))), "(a & b) < c")

    def test_one_premise(self):
        self.assertEqual(shown_rule(([(A, B)], (B, C))), "a < b => b < c")

    def test_the_documents_own(self):
        rule = ([(A, B), (("not", B), C)], (A, NONE))
        self.assertEqual(shown_rule(rule), "a < b, !b < c => a < none")

    def test_five_premises(self):
        rule = ([(A, B), (D, C), (A, B), (ALL, ("not", A)), (("either", A, B), C)], (("both", A, D), NONE))
        self.assertEqual(shown_rule(rule), "a < b, d < c, a < b, all < !a, (a | b) < c => (a & d) < none")

    def test_the_rule_stays(self):
        rule = ([(B, A), (A, B)], (C, D))
        before = copy.deepcopy(rule)
        self.assertEqual(shown_rule(rule), "b < a, a < b => c < d")
        self.assertEqual(rule, before)


if __name__ == "__main__":
    unittest.main()
