"""Points 2, 3 and 7: names, leaves, depth, mirrors and filled terms."""

import copy
import string
import unittest

from clashbook.terms import depth, filled, is_name, leaves, mirror, mirror_rule, names_in, names_of

NONE = ("none",)
ALL = ("all",)
A, B, C, D = [("name", name) for name in "abcd"]
# These words are names like any others.
ODD_NAMES = ("name", "not", "both", "either")


def nested(kind, many):
    t = A
    for step in range(many):
        t = ("not", t) if kind == "not" else (kind, t, B)
    return t


class IsName(unittest.TestCase):
    def test_every_small_letter_by_itself(self):
        for letter in string.ascii_lowercase:
            self.assertIs(is_name(letter), True, letter)

    def test_one_to_eight_letters(self):
        for many in range(1, 9):
            self.assertIs(is_name("abcdefghz"[-many:]), True, many)
        self.assertIs(is_name(""), False)
        for many in (9, 10, 16, 400):
            self.assertIs(is_name("a" * many), False, many)

    def test_none_and_all_are_no_names(self):
        self.assertIs(is_name("none"), False)
        self.assertIs(is_name("all"), False)

    def test_names_near_none_and_all(self):
        for text in ("non", "nones", "anone", "one", "al", "alls", "ball", "nonenone", "noneall", "allnone"):
            self.assertIs(is_name(text), True, text)

    def test_words_of_terms_are_names(self):
        for text in ODD_NAMES:
            self.assertIs(is_name(text), True, text)

    def test_another_sign_at_any_place(self):
        others = "AZ09_-. !&|()<>=,'`{@[\n\r\t\0\x0b\x85\u2028\u00e9\u00df\u0131\u017f\u00b2\u00aa\u0430\uff41\u0660"
        for sign in others:
            for many in range(8):
                for place in range(many + 1):
                    letters = "abcdefgh"[:many]
                    text = letters[:place] + sign + letters[place:]
                    self.assertIs(is_name(text), False, repr(text))

    def test_a_line_end_behind(self):
        for text in ("a\n", "abcdefg\n", "abcdefgh\n", "none\n", "all\n", "\n"):
            self.assertIs(is_name(text), False, repr(text))


class Names(unittest.TestCase):
    def test_leaves_by_themselves(self):
        self.assertEqual(names_of(NONE), [])
        self.assertEqual(names_of(ALL), [])
        self.assertEqual(names_of(A), ["a"])

    def test_sorted_and_each_once(self):
        t = ("either", C, ("both", A, ("not", C), NONE), ("not", ("not", B)), A, ALL)
        self.assertEqual(names_of(t), ["a", "b", "c"])

    def test_sorted_as_texts(self):
        t = ("both", ("name", "b"), ("name", "ab"), ("name", "aaa"), ("name", "a"), ("name", "z"))
        self.assertEqual(names_of(t), ["a", "aaa", "ab", "b", "z"])

    def test_every_part_counts(self):
        for kind in ("both", "either"):
            self.assertEqual(names_of((kind, A, B)), ["a", "b"])
            self.assertEqual(names_of((kind, D, C, B, A)), ["a", "b", "c", "d"])
            self.assertEqual(names_of(("not", (kind, NONE, (kind, ALL, D)))), ["d"])

    def test_words_of_terms_as_names(self):
        t = ("both", *[("name", name) for name in ODD_NAMES])
        self.assertEqual(names_of(t), sorted(ODD_NAMES))

    def test_deep(self):
        for kind in ("not", "both", "either"):
            for many in (20, 60):
                self.assertEqual(names_of(nested(kind, many)), ["a"] if kind == "not" else ["a", "b"])

    def test_many_names(self):
        names = [first + second for first in "zyxwvu" for second in "abcdefghij"]
        t = ("either", *[("name", name) for name in names])
        self.assertEqual(names_of(t), sorted(names))

    def test_the_list_is_the_askers_own(self):
        t = ("both", A, B)
        told = names_of(t)
        told.append("x")
        self.assertEqual(names_of(t), ["a", "b"])
        empty = names_of(NONE)
        empty.append("x")
        self.assertEqual(names_of(NONE), [])
        self.assertEqual(names_of(ALL), [])


class NamesIn(unittest.TestCase):
    def test_no_rules(self):
        self.assertEqual(names_in([], (NONE, ALL)), [])
        self.assertEqual(names_in([], (B, A)), ["a", "b"])
        self.assertEqual(names_in([], (A, A)), ["a"])

    def test_each_place_counts(self):
        blank = (NONE, ALL)
        self.assertEqual(names_in([([], blank)], (A, ALL)), ["a"])
        self.assertEqual(names_in([([], blank)], (ALL, A)), ["a"])
        self.assertEqual(names_in([([], (A, ALL))], blank), ["a"])
        self.assertEqual(names_in([([], (ALL, A))], blank), ["a"])
        for place in range(5):
            for premise in ((A, NONE), (NONE, A)):
                premises = [blank] * 5
                premises[place] = premise
                self.assertEqual(names_in([(premises, blank)], blank), ["a"])

    def test_each_rule_counts(self):
        names = ["l", "k", "j", "i", "h", "g", "f", "e", "d", "c", "b", "a"]
        book = [([], (("name", name), NONE)) for name in names]
        self.assertEqual(names_in(book, (NONE, NONE)), sorted(names))

    def test_sorted_and_each_once(self):
        book = [
            ([(D, C), (("not", B), A)], (("both", A, D), NONE)),
            ([], (C, D)),
            ([], (C, D)),
        ]
        self.assertEqual(names_in(book, (("name", "ab"), ("either", B, C))), ["a", "ab", "b", "c", "d"])

    def test_the_book_stays(self):
        book = [([(D, C), (A, B)], (B, A)), ([], (C, A))]
        before = copy.deepcopy(book)
        saying = (A, ("not", D))
        told = names_in(book, saying)
        self.assertEqual(book, before)
        told.append("x")
        self.assertEqual(names_in(book, saying), ["a", "b", "c", "d"])
        self.assertEqual(book, before)

    def test_nothing_is_kept(self):
        book = [([(A, B)], (B, A))]
        self.assertEqual(names_in(book, (A, A)), ["a", "b"])
        book[0][0].append((C, D))
        self.assertEqual(names_in(book, (A, A)), ["a", "b", "c", "d"])
        book.clear()
        self.assertEqual(names_in(book, (A, A)), ["a"])


class LeavesAndDepth(unittest.TestCase):
    def check(self, t, many, deep):
        self.assertEqual((leaves(t), depth(t)), (many, deep), t)
        self.assertIs(leaves(t).__class__, int)
        self.assertIs(depth(t).__class__, int)

    def test_leaves_by_themselves(self):
        for t in (NONE, ALL, A, ("name", "not"), ("name", "abcdefgh")):
            self.check(t, 1, 0)

    def test_not(self):
        self.check(("not", A), 1, 1)
        self.check(("not", NONE), 1, 1)
        self.check(("not", ("not", ALL)), 1, 2)

    def test_both_and_either(self):
        for kind in ("both", "either"):
            self.check((kind, A, A), 2, 1)
            self.check((kind, NONE, ALL), 2, 1)
            self.check((kind, A, NONE, ALL), 3, 1)
            self.check((kind, *[A] * 60), 60, 1)
            self.check(("not", (kind, A, B)), 2, 2)

    def test_the_deepest_part_at_any_place(self):
        deep = ("not", ("both", A, ("not", B)))
        for kind in ("both", "either"):
            for place in range(4):
                parts = [A, ("not", B), C, ("not", NONE)]
                parts[place] = deep
                self.check((kind, *parts), 5, 4)

    def test_mixed(self):
        self.check(("both", A, ("not", B), ("either", C, NONE)), 4, 2)
        self.check(("either", ("both", A, A, A), ("not", ("either", A, A))), 5, 3)

    def test_deep(self):
        for many in (20, 21, 60):
            self.check(nested("not", many), 1, many)
            self.check(nested("both", many), many + 1, many)
            self.check(nested("either", many), many + 1, many)


class Mirror(unittest.TestCase):
    def test_leaves(self):
        self.assertEqual(mirror(NONE), ALL)
        self.assertEqual(mirror(ALL), NONE)
        self.assertEqual(mirror(A), A)
        for name in ODD_NAMES:
            self.assertEqual(mirror(("name", name)), ("name", name))

    def test_each_word(self):
        self.assertEqual(mirror(("not", A)), ("not", A))
        self.assertEqual(mirror(("not", NONE)), ("not", ALL))
        self.assertEqual(mirror(("both", A, B)), ("either", A, B))
        self.assertEqual(mirror(("either", A, B)), ("both", A, B))
        self.assertEqual(mirror(("both", C, B, A, C)), ("either", C, B, A, C))
        self.assertEqual(mirror(("either", C, ALL, NONE)), ("both", C, NONE, ALL))

    def test_everywhere(self):
        t = ("both", ("either", A, ("not", ("both", B, NONE))), ("not", ("either", ALL, C, ("both", D, ALL))), NONE)
        m = ("either", ("both", A, ("not", ("either", B, ALL))), ("not", ("both", NONE, C, ("either", D, NONE))), ALL)
        self.assertEqual(mirror(t), m)
        self.assertEqual(mirror(m), t)

    def test_deep(self):
        for many in (20, 60):
            self.assertEqual(mirror(nested("both", many)), nested("either", many))
            self.assertEqual(mirror(nested("either", many)), nested("both", many))
            self.assertEqual(mirror(nested("not", many)), nested("not", many))


class MirrorRule(unittest.TestCase):
    def test_no_premises(self):
        self.assertEqual(mirror_rule(([], (A, B))), ([], (B, A)))
        self.assertEqual(mirror_rule(([], (("both", A, B), NONE))), ([], (ALL, ("either", A, B))))

    def test_premises_in_their_order(self):
        rule = (
            [(A, B), (("not", B), ALL), (("both", C, NONE), D), (A, A), (NONE, C)],
            (("either", A, ALL), ("not", C)),
        )
        self.assertEqual(
            mirror_rule(rule),
            (
                [(B, A), (NONE, ("not", B)), (D, ("either", C, ALL)), (A, A), (C, ALL)],
                (("not", C), ("both", A, NONE)),
            ),
        )

    def test_twice_is_the_same_rule(self):
        rule = ([(A, ("both", B, C)), (NONE, D)], (("not", A), ("either", D, ALL)))
        self.assertEqual(mirror_rule(mirror_rule(rule)), rule)

    def test_the_same_premise_twice(self):
        self.assertEqual(mirror_rule(([(A, B), (A, B)], (A, B))), ([(B, A), (B, A)], (B, A)))

    def test_the_rule_stays(self):
        rule = ([(A, NONE), (B, C)], (ALL, D))
        before = copy.deepcopy(rule)
        told = mirror_rule(rule)
        self.assertEqual(rule, before)
        told[0].append((A, A))
        told[0][0] = (D, D)
        self.assertEqual(rule, before)
        self.assertEqual(mirror_rule(rule), ([(ALL, A), (C, B)], (D, NONE)))

    def test_a_list_of_no_premises_is_a_new_one(self):
        rule = ([], (A, B))
        told = mirror_rule(rule)
        told[0].append((A, A))
        self.assertEqual(rule, ([], (A, B)))
        self.assertEqual(mirror_rule(rule), ([], (B, A)))
        self.assertEqual(mirror_rule(([], (B, A))), ([], (A, B)))

    def test_nothing_is_kept(self):
        rule = ([(A, B)], (A, B))
        told = mirror_rule(rule)
        rule[0].append((C, D))
        self.assertEqual(told, ([(B, A)], (B, A)))


class Filled(unittest.TestCase):
    def test_no_pairs(self):
        t = ("both", A, ("not", B), ("either", NONE, ALL))
        self.assertEqual(filled(t, []), t)
        self.assertEqual(filled(A, []), A)

    def test_a_name_gives_way_wherever_it_stands(self):
        t = ("both", A, ("not", A), ("either", B, ("not", ("both", A, A))))
        x = ("either", C, NONE)
        self.assertEqual(filled(t, [("a", x)]), ("both", x, ("not", x), ("either", B, ("not", ("both", x, x)))))

    def test_leaves(self):
        self.assertEqual(filled(A, [("a", ("not", B))]), ("not", B))
        self.assertEqual(filled(A, [("a", NONE)]), NONE)
        self.assertEqual(filled(NONE, [("a", ALL)]), NONE)
        self.assertEqual(filled(ALL, [("a", NONE)]), ALL)

    def test_names_without_a_pair_stay(self):
        self.assertEqual(filled(("either", A, B, C), [("b", ALL)]), ("either", A, ALL, C))
        self.assertEqual(filled(A, [("aa", B), ("b", C)]), A)

    def test_all_at_once(self):
        t = ("both", A, B, C)
        for pairs in ([("a", B), ("b", A)], [("b", A), ("a", B)]):
            self.assertEqual(filled(t, pairs), ("both", B, A, C))
        for pairs in ([("a", B), ("b", C), ("c", D)], [("c", D), ("b", C), ("a", B)]):
            self.assertEqual(filled(t, pairs), ("both", B, C, D))

    def test_what_is_put_in_is_not_filled(self):
        x = ("both", A, ("not", A), B)
        self.assertEqual(filled(A, [("a", x)]), x)
        self.assertEqual(filled(("not", A), [("a", x), ("b", NONE)]), ("not", x))

    def test_a_name_for_itself(self):
        self.assertEqual(filled(("both", A, B), [("a", A), ("b", A)]), ("both", A, A))

    def test_parts_of_the_same_word_stay_apart(self):
        self.assertEqual(filled(("both", A, C), [("a", ("both", A, B))]), ("both", ("both", A, B), C))
        self.assertEqual(filled(("not", A), [("a", ("not", B))]), ("not", ("not", B)))

    def test_words_of_terms_as_names(self):
        t = ("both", ("not", ("name", "not")), ("either", ("name", "both"), ("name", "name")), ("name", "either"))
        pairs = [("not", A), ("both", B), ("name", C), ("either", D)]
        self.assertEqual(filled(t, pairs), ("both", ("not", A), ("either", B, C), D))

    def test_deep(self):
        t = filled(nested("both", 20), [("a", nested("both", 20)), ("b", B)])
        self.assertEqual(t, nested("both", 40))

    def test_the_pairs_stay(self):
        pairs = [("b", ("not", A)), ("a", NONE)]
        before = copy.deepcopy(pairs)
        t = ("both", A, B, C)
        self.assertEqual(filled(t, pairs), ("both", NONE, ("not", A), C))
        self.assertEqual(pairs, before)
        pairs.clear()
        self.assertEqual(filled(t, pairs), t)


if __name__ == "__main__":
    unittest.main()
