"""Points 25 and 27: what a term is worth by a plain reading, and the first reading that leaves a saying open."""

import copy
import itertools
import random
import unittest

from checks import lists_in, names
from samples import A, ALL, B, C, D, NONE, fits_by_hand, holds_by_hand, some_rule, some_saying, some_term, value_by_hand
from clashbook.errors import TooMuch
from clashbook.readings import first_open, worth
from clashbook.sheets import sheet_of, told
from clashbook.terms import depth, leaves
from clashbook.texts import read, read_rule, read_saying

READINGS = [list(zip("abcd", truths)) for truths in itertools.product((False, True), repeat=4)]


def one_spot(reading):
    """The world of one spot that a reading is."""
    return (1, [], [(name, [0] if truth else []) for name, truth in sorted(reading)])


def readings_in_order(letters):
    return [list(zip(letters, truths)) for truths in itertools.product((False, True), repeat=len(letters))]


def letters_in(told_things):
    """The names in terms of single letters, sorted."""
    if told_things[:1] == ("name",):
        return [told_things[1]]
    parts = [each for each in told_things if isinstance(each, (tuple, list))]
    return sorted({letter for part in parts for letter in letters_in(part)})


def first_by_hand(book, saying):
    for reading in readings_in_order(letters_in((book, saying))):
        world = one_spot(reading)
        if all(fits_by_hand(world, rule) for rule in book) and not holds_by_hand(world, saying):
            return reading
    return None


class Worth(unittest.TestCase):
    def check(self, text, asked):
        """Over a and b: none and none, none and all, all and none, all and all."""
        told_truths = [worth([("a", a), ("b", b)], read(text)) for a in (False, True) for b in (False, True)]
        self.assertEqual(told_truths, [sign == "1" for sign in asked], text)
        for truth in told_truths:
            self.assertIs(truth.__class__, bool)

    def test_every_kind(self):
        self.check("none", "0000")
        self.check("all", "1111")
        self.check("a", "0011")
        self.check("b", "0101")
        self.check("!a", "1100")
        self.check("!!a", "0011")
        self.check("!none", "1111")
        self.check("!all", "0000")
        self.check("(a & b)", "0001")
        self.check("(a | b)", "0111")
        self.check("!(a & b)", "1110")
        self.check("(a & !b)", "0010")
        self.check("(!a | b)", "1101")

    def test_more_parts(self):
        self.check("(a & b & all)", "0001")
        self.check("(all & all & all & a)", "0011")
        self.check("(none | none | b | none)", "0101")
        self.check("(a & all & none)", "0000")
        self.check("(none | all | a)", "1111")
        self.check("(a & a)", "0011")

    def test_parts_that_part_ways(self):
        self.check("(a & (b | !a))", "0001")
        self.check("((a & !b) | (b & !a))", "0110")
        self.check("(a & !a)", "0000")
        self.check("(a | !a)", "1111")

    def test_no_names(self):
        self.assertIs(worth([], ALL), True)
        self.assertIs(worth([], NONE), False)
        self.assertIs(worth([], read("(!none & (none | all))")), True)

    def test_any_order_and_more_names(self):
        pairs = [("a", True), ("b", False), ("c", True), ("zz", False)]
        for reading in itertools.permutations(pairs):
            self.assertIs(worth(list(reading), read("(a & !b)")), True)
            self.assertIs(worth(list(reading), read("(b | !c)")), False)
        self.assertIs(worth([("zz", True)], ("name", "zz")), True)

    def test_the_reading_stays(self):
        reading = [("c", True), ("a", False), ("b", True)]
        before = copy.deepcopy(reading)
        self.assertIs(worth(reading, read("(a | b)")), True)
        self.assertEqual(reading, before)
        reading[2] = ("b", False)
        self.assertIs(worth(reading, read("(a | b)")), False)

    def test_the_world_of_one_spot(self):
        chance = random.Random(25)
        for run in range(400):
            t = some_term(chance, chance.choice((1, 2, 3, 4)))
            reading = chance.choice(READINGS)
            self.assertIs(worth(reading, t), value_by_hand(one_spot(reading), t) == {0})

    def test_deep_and_wide_terms(self):
        t = A
        for k in range(60):
            t = ("not", t)
        self.assertIs(worth([("a", True)], t), True)
        self.assertIs(worth([("a", False)], ("not", t)), True)
        self.assertIs(worth([("a", True)], ("both", *[A] * 80)), True)
        self.assertIs(worth([("a", True), ("b", False)], ("both", *[A] * 60, B)), False)

    def test_terms_told_of_sheets(self):
        whole = ("both", *[("name", letter) for letter in "abcdefghijklmnopqrst"])
        sheet = sheet_of([whole])
        t = told(sheet, 78)
        self.assertEqual(depth(t), 19)
        reading = [(letter, True) for letter in "tsrqponmlkjihgfedcba"]
        self.assertIs(worth(reading, t), True)
        self.assertIs(worth(reading, told(sheet, 79)), False)


class FirstOpen(unittest.TestCase):
    def check(self, texts, saying, asked):
        """Asked is None or the truths of the names, 0 or 1 each, as the names are sorted."""
        book = [read_rule(text) for text in texts]
        pair = read_saying(saying)
        if asked is not None:
            asked = list(zip(letters_in((book, pair)), [sign == "1" for sign in asked]))
        answer = first_open(book, pair)
        self.assertEqual(answer, asked, (texts, saying))
        if answer is not None:
            self.assertIs(answer.__class__, list)
            for each in answer:
                self.assertIs(each.__class__, tuple)
                self.assertIs(each[1].__class__, bool)

    def test_no_rules(self):
        self.check([], "a < a", None)
        self.check([], "a < b", "10")
        self.check([], "b < a", "01")
        self.check([], "a < none", "1")
        self.check([], "all < a", "0")
        self.check([], "!a < a", "0")

    def test_no_names(self):
        self.check([], "all < none", "")
        self.check([], "none < none", None)
        self.check([], "none < all", None)
        self.check(["all < all"], "all < none", "")
        self.check(["all < none"], "all < none", None)
        self.check(["all < none => all < none"], "!none < none", "")
        self.check(["none < all => all < none"], "!none < none", None)

    def test_the_first_by_the_order(self):
        self.check([], "all < none", "")
        self.check(["none < (a & b)"], "all < none", "00")
        self.check([], "(a | b) < none", "01")
        self.check([], "(a | b | c | d) < none", "0001")
        self.check(["d < none"], "(a | b | c | d) < none", "0010")
        self.check(["d < none", "c < d"], "(a | b | c | d) < none", "0100")
        self.check(["(b | c | d) < none"], "(a | b | c | d) < none", "1000")
        self.check([], "(d | c) < (a | b)", "0001")
        self.check([], "(a & c) < b", "101")
        self.check(["c < b"], "(a & b) < none", "110")
        self.check([], "all < (a & b & c & d)", "0000")
        self.check(["all < (a | b)"], "all < (a & b)", "01")
        self.check(["all < a"], "all < b", "10")

    def test_sorted_by_names(self):
        answer = first_open([read_rule("zz < b")], read_saying("(aaa | y) < zz"))
        self.assertEqual(answer, [("aaa", False), ("b", False), ("y", True), ("zz", False)])
        answer = first_open([], read_saying("ba < ab"))
        self.assertEqual(answer, [("ab", False), ("ba", True)])
        answer = first_open([], read_saying("b < abc"))
        self.assertEqual(answer, [("abc", False), ("b", True)])

    def test_rules_must_hold(self):
        self.check(["a < b"], "a < b", None)
        self.check(["a < b", "b < c"], "a < c", None)
        self.check(["a < b", "b < c"], "c < a", "001")
        self.check(["all < none"], "a < b", None)
        self.check(["a < !a"], "a < none", None)

    def test_premises(self):
        self.check(["a < b => b < c"], "b < c", None)
        self.check(["a < b => c < d"], "c < d", "1010")
        self.check(["all < a => b < c"], "b < c", "010")
        self.check(["all < a => b < c", "all < a"], "b < c", None)
        self.check(["all < a, all < b => all < c"], "all < c", "000")
        self.check(["all < a, all < b => all < c", "all < a"], "all < c", "100")
        self.check(["all < a, all < b => all < c", "all < a", "all < b"], "all < c", None)
        self.check(["a < none => all < b", "all < a => all < b"], "all < b", None)

    # Yes and no alone: what the judge leaves open may well hold in every plain reading.
    def test_yes_and_no(self):
        self.check([], "(a & (b | c)) < ((a & b) | (a & c))", None)
        self.check([], "a < ((a & b) | (a & !b))", None)
        self.check(["all < (a | b)", "a < !c"], "c < b", None)

    def test_names_of_rules_alone(self):
        self.check(["c < d"], "a < b", "1000")
        self.check(["none < c", "d < all => none < none"], "b < a", "0100")
        self.check(["none < none, none < (c & d) => none < all"], "b < a", "0100")

    def test_every_reading_may_be_the_first(self):
        letters = "abcd"
        for truths in itertools.product((False, True), repeat=4):
            wanted = list(zip(letters, truths))
            only = ("both", *[("name", name) if truth else ("not", ("name", name)) for name, truth in wanted])
            self.assertEqual(first_open([], (only, NONE)), wanted)
            self.assertEqual(first_open([([], (ALL, only))], (ALL, NONE)), wanted)
            later = [("both", *[("name", n) if t else ("not", ("name", n)) for n, t in zip(letters, other)])
                     for other in itertools.product((False, True), repeat=4) if other >= truths]
            self.assertEqual(first_open([([], (ALL, ("either", *later, NONE)))], (ALL, NONE)), wanted)

    def test_many_books(self):
        chance = random.Random(27)
        seen = []
        for run in range(400):
            book = [some_rule(chance, chance.choice((0, 1, 2))) for rule in range(chance.randint(0, 5))]
            saying = some_saying(chance, chance.choice((0, 1, 2)))
            before = copy.deepcopy((book, saying))
            answer = first_open(book, saying)
            self.assertEqual((book, saying), before)
            self.assertEqual(answer, first_by_hand(book, saying))
            seen.append(answer is None)
        self.assertGreater(seen.count(True), 60)
        self.assertGreater(seen.count(False), 60)

    def test_four_names_are_told_and_five_refused(self):
        four = names(4)
        five = names(5)
        self.assertEqual(first_open([], (four[3], ("both", *four))), [("qa", False), ("qb", False), ("qc", False), ("qd", True)])
        for book, saying in (
            ([], (("both", *five), A)), ([], (A, ("both", *five))), ([], (("both", *five), five[0])),
            ([], (NONE, ("either", *five))), ([([], (five[0], five[1]))], (five[2], ("both", five[3], five[4]))),
            ([([(five[0], five[1])], (five[2], five[3]))], (five[4], five[4])),
            ([([], (each, ALL)) for each in five], (NONE, NONE)), ([([], (ALL, NONE))], (("both", *names(20)), NONE)),
        ):
            before = copy.deepcopy((book, saying))
            with self.assertRaises(TooMuch):
                first_open(book, saying)
            self.assertEqual((book, saying), before)

    def test_more_than_forty_rows(self):
        threes = list(itertools.permutations((A, B, C, D), 3))[:20]
        wide = ("either", *[("both", one, ("not", other), third) for one, other, third in threes])
        self.assertEqual(leaves(wide), 60)
        with self.assertRaises(TooMuch):
            sheet_of([wide])
        for book, saying in (
            ([], (wide, NONE)), ([], (wide, wide)), ([([], (wide, A))], (wide, B)), ([([], (wide, NONE))], (ALL, A)),
            ([([(wide, A)], (ALL, wide))], (D, A)),
        ):
            self.assertEqual(first_open(book, saying), first_by_hand(book, saying))

    def test_many_rules(self):
        book = [([(A, B)] * 5, (B, C))] * 12 + [([], (C, D))]
        self.assertEqual(first_open(book, (D, A)), first_by_hand(book, (D, A)))

    def test_the_lists_are_the_askers_own(self):
        book = [read_rule("a < b => b < c")]
        first = first_open(book, (C, A))
        kept = list(first)
        second = first_open(book, (C, A))
        self.assertEqual(len({id(each) for each in lists_in([first, second])}), 3)
        first.clear()
        book[0][0].clear()
        self.assertEqual(second, kept)


if __name__ == "__main__":
    unittest.main()
