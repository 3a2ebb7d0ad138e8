"""Point 9: what is read, and what is refused with NoText."""

import itertools
import random
import re
import unittest

from clashbook.errors import NoText
from clashbook.texts import read, read_rule, read_saying, shown, shown_rule, shown_saying

NONE = ("none",)
ALL = ("all",)
A, B, C, D = [("name", name) for name in "abcd"]
NAMES = ("a", "b", "z", "abcdefgh", "nonea", "al", "not", "both", "either", "name")
NO_TEXTS = (None, 0, 1, True, False, 1.5, b"a", b"a < b", bytearray(b"a"), [], ["a"], ["a < b"], ("a",), ("name", "a"),
            ("all",), {}, {"a": "b"}, object(), str)


def written(text):
    """Whether a text is a term's by its signs alone: each part gives way to @ until one is left."""
    if "@" in text or re.search("[a-z]{9}", text):
        return False
    text = re.sub("[a-z]+", "@", text)
    before = None
    while text != before:
        before = text
        text = re.sub(r"!@|\(@(?: & @)+\)|\(@(?: \| @)+\)", "@", text)
    return text == "@"


def written_saying(text):
    sides = text.split(" < ")
    return len(sides) == 2 and written(sides[0]) and written(sides[1])


def written_rule(text):
    halves = text.split(" => ")
    premises = halves[0].split(", ") if len(halves) > 1 else []
    return len(halves) < 3 and all(map(written_saying, premises)) and written_saying(halves[-1])


def edits(text):
    """All texts that have one sign less, one more, or another one."""
    signs = " !&|()<>=,ab@A0_\n\t\r\u00e9\u00a0"
    for place in range(len(text) + 1):
        for sign in signs:
            yield text[:place] + sign + text[place:]
            yield text[:place] + sign + text[place + 1:]
        yield text[:place] + text[place + 1:]
        yield text[:place]
        yield text[place:]


def small_terms():
    terms = [NONE, ALL, A, B]
    for step in range(2):
        first = terms[:7]
        terms = terms + [("not", t) for t in first]
        for kind in ("both", "either"):
            terms = terms + [(kind, s, t) for s in first for t in first]
            terms = terms + [(kind, s, t, u) for s in first[:4] for t in first[2:] for u in first[:3]]
    return terms


def some_term(chance, deep, width):
    kind = chance.choice(("leaf", "leaf", "not", "both", "either", "either"))
    if deep == 0 or width == 1 and kind != "not" or kind == "leaf":
        return chance.choice([NONE, ALL] + [("name", name) for name in NAMES])
    if kind == "not":
        return ("not", some_term(chance, deep - 1, width))
    many = chance.randint(2, min(width, 5))
    return (kind, *[some_term(chance, deep - 1, width // many) for part in range(many)])


def some_terms(many):
    chance = random.Random(9)
    found = []
    while len(found) < many:
        t = some_term(chance, chance.randint(0, 20), chance.randint(1, 60))
        if len(shown(t)) <= 400:
            found.append(t)
    return found


def wide_text(leaves, joint=" & "):
    return "(" + joint.join(["a"] * leaves) + ")"


def text_of_length(length):
    """A term of so many signs, at least 200, and of fewer than sixty leaves."""
    for many in range(1, 60):
        rest = length - 2 - 3 * (many - 1)
        if many <= rest <= 8 * many:
            lengths = [rest // many + (1 if k < rest % many else 0) for k in range(many)]
            return "(" + " | ".join(["b" * one for one in lengths]) + ")"
    raise AssertionError(length)


class Reading(unittest.TestCase):
    def refused(self, reader, text):
        with self.assertRaises(NoText, msg=repr(text)):
            reader(text)

    def refused_everywhere(self, text):
        """A term's text that is refused is refused wherever it stands."""
        self.refused(read, text)
        for saying in (text + " < a", "a < " + text):
            self.refused(read_saying, saying)
            self.refused(read_rule, saying)
            self.refused(read_rule, "a < b => " + saying)
            self.refused(read_rule, saying + " => a < b")
            self.refused(read_rule, "a < b, b < a, " + saying + ", a < a => a < b")

    def read_everywhere(self, text):
        """A term's text that is read is read wherever it stands, and to the same term."""
        t = read(text)
        self.assertEqual(shown(t), text)
        for saying, said in ((text + " < a", (t, A)), ("a < " + text, (A, t))):
            self.assertEqual(read_saying(saying), said)
            self.assertEqual(read_rule(saying), ([], said))
            self.assertEqual(read_rule("a < b => " + saying), ([(A, B)], said))
            self.assertEqual(read_rule(saying + " => a < b"), ([said], (A, B)))
            rule = ([(A, B), (B, A), said, (A, A)], (A, B))
            self.assertEqual(read_rule("a < b, b < a, " + saying + ", a < a => a < b"), rule)

    def check_by_signs(self, reader, shower, asked, texts):
        for text in texts:
            if asked(text):
                self.assertEqual(shower(reader(text)), text)
            else:
                self.refused(reader, text)


class ReadTerms(Reading):
    def test_to_the_sign(self):
        self.assertEqual(read("none"), NONE)
        self.assertEqual(read("all"), ALL)
        self.assertEqual(read("a"), A)
        self.assertEqual(read("!a"), ("not", A))
        self.assertEqual(read("!!none"), ("not", ("not", NONE)))
        self.assertEqual(read("(a & b)"), ("both", A, B))
        self.assertEqual(read("(a | b | all)"), ("either", A, B, ALL))
        self.assertEqual(read("!(a & !b & c & a)"), ("not", ("both", A, ("not", B), C, A)))
        self.assertEqual(read("(a & !b & (c | none))"), ("both", A, ("not", B), ("either", C, NONE)))
        self.assertEqual(read("((a & b) & c)"), ("both", ("both", A, B), C))
        self.assertEqual(read("(a & (b & c))"), ("both", A, ("both", B, C)))
        self.assertEqual(read("((a | b) | !(c | d))"), ("either", ("either", A, B), ("not", ("either", C, D))))

    def test_names(self):
        for name in NAMES:
            self.assertEqual(read(name), ("name", name))
            self.assertEqual(read("!" + name), ("not", ("name", name)))
            self.assertEqual(read("(" + name + " & " + name + ")"), ("both", ("name", name), ("name", name)))

    def test_what_is_written_is_read(self):
        for t in small_terms() + some_terms(2000):
            text = shown(t)
            self.assertEqual(read(text), t)
            self.assertEqual(shown(read(text)), text)

    def test_refused(self):
        texts = (
            "", " ", "\n", "()", "(", ")", "!", "!!", "&", "|", " & ", "(a)", "((a))", "!(a)", "(!a)", "(none)",
            "((a & b))", "!((a & b))", "((a) & b)", "(a & (b))", "a & b", "a | b", "a & b & c", "(a & b) & c", "a b",
            "(a & b | c)", "(a | b & c)", "(a & b & c | d)", "(a | b | c & d)", "(a&b)", "(a &b)", "(a& b)",
            "(a  & b)", "(a &  b)", "( a & b)", "(a & b )", " (a & b)", "(a & b) ", " a", "a ", "a\n", "\na", "(a & b)\n",
            "(a &\nb)", "(a &\tb)", "(a && b)", "(a || b)", "(a & b", "a & b)", "(a & b))", "((a & b)", "(a & )", "( & b)",
            "(a & & b)", "(a & b & )", "(& a & b)", "(a b)", "(a,b)", "(a, b)", "! a", "a!", "!a!", "(! a & b)", "-a", "~a",
            "not a", "(a and b)", "(a / b)", "(a + b)", "[a & b]", "{a & b}", "A", "aB", "a0", "0", "a_b", "a-b", "None", "ALL",
            "abcdefghi", "!abcdefghi", "(a & abcdefghi)", "nonenonen", "\u00e9", "a\u00e9", "\uff41", "a\0", "(a & b)(c & d)",
            "(a & b)a", "a(a & b)", "a < b", "a < b => a < b", "a, b", "name a", '"a"', "'a'", "('name', 'a')",
        )
        for text in texts:
            self.refused_everywhere(text)

    def test_one_sign_lacking_too_many_or_another(self):
        texts = ("a", "none", "!all", "(a & b)", "(b | !a)", "(a & !b & (c | none))", "!((a | b) & !!(b | all | a))")
        for text in texts:
            self.check_by_signs(read, shown, written, edits(text))

    def test_all_rows_of_few_pieces(self):
        pieces = ("a", "none", "!", "(", ")", " & ", " | ", " ")
        for many in range(6):
            texts = ["".join(row) for row in itertools.product(pieces, repeat=many)]
            self.check_by_signs(read, shown, written, texts)

    def test_what_is_no_text(self):
        for thing in NO_TEXTS:
            self.refused(read, thing)


class TermBounds(Reading):
    def test_four_hundred_signs(self):
        for length in (399, 400):
            self.assertEqual(len(text_of_length(length)), length)
            self.read_everywhere(text_of_length(length))
        for length in (401, 402, 410):
            self.assertEqual(len(text_of_length(length)), length)
            self.refused_everywhere(text_of_length(length))

    def test_both_sides_have_their_own_four_hundred(self):
        text = text_of_length(400)
        t = read(text)
        self.assertEqual(read_saying(text + " < " + text), (t, t))
        self.assertEqual(read_rule(text + " < " + text), ([], (t, t)))
        self.assertEqual(read_rule(text + " < " + text + " => " + text + " < " + text), ([(t, t)], (t, t)))

    def test_sixty_leaves(self):
        for leaf in ("a", "all", "ab"):
            for joint in (" & ", " | "):
                for many in (59, 60):
                    self.read_everywhere("(" + joint.join([leaf] * many) + ")")
                for many in (61, 62):
                    self.refused_everywhere("(" + joint.join([leaf] * many) + ")")

    def test_none_counts_as_a_leaf(self):
        self.read_everywhere("(" + " & ".join(["none", "a"] * 30) + ")")
        self.refused_everywhere("(" + " & ".join(["none", "a"] * 30 + ["none"]) + ")")

    def test_sixty_leaves_spread(self):
        self.read_everywhere("(" + wide_text(30) + " & " + wide_text(30, " | ") + ")")
        self.refused_everywhere("(" + wide_text(30) + " & " + wide_text(31, " | ") + ")")
        self.read_everywhere("!(" + wide_text(58, " | ") + " & !none & all)")
        self.refused_everywhere("!(" + wide_text(59, " | ") + " & !none & all)")

    def test_sixty_leaves_on_each_side(self):
        t = read(wide_text(60))
        self.assertEqual(read_saying(wide_text(60) + " < " + wide_text(60)), (t, t))

    def test_twenty_deep(self):
        for deep in (19, 20):
            for text in self.deep_texts(deep):
                self.read_everywhere(text)
        for deep in (21, 22, 40):
            for text in self.deep_texts(deep):
                self.refused_everywhere(text)

    def deep_texts(self, deep):
        yield "!" * deep + "a"
        yield "!" * deep + "none"
        yield "!" * (deep - 1) + "(a & b)"
        for joint in (" & ", " | "):
            yield "(" * deep + "a" + (joint + "b)") * deep
            yield ("(b" + joint) * deep + "a" + ")" * deep
            yield "(b" + joint + "!" * (deep - 1) + "a)"
            yield "(" + "!" * (deep - 1) + "a" + joint + "b)"
            yield "(b" + joint + "!" * (deep - 1) + "a" + joint + "c)"
        half = deep // 2
        yield "!" * (deep - half) + "(" * half + "a" + " & all)" * half
        yield "(c | " * half + "!" * (deep - half) + "a" + ")" * half

    def test_the_bounds_together(self):
        self.read_everywhere("!" * 19 + wide_text(60))
        self.refused_everywhere("!" * 20 + wide_text(60))
        self.refused_everywhere("!" * 19 + wide_text(61))

    def test_far_beyond(self):
        texts = ["!" * 399 + "a", "!" * 400, "(" * 400, "(" * 200 + ")" * 200, "a" * 400, "(!" * 199 + "a", "!" * 20000,
                 "(" * 20000, "!" * 20000 + "a", "(" * 20000 + "a" + " & b)" * 20000, wide_text(5000), "a" * 20000]
        for text in texts:
            self.refused_everywhere(text)


class ReadSayings(Reading):
    def test_to_the_sign(self):
        self.assertEqual(read_saying("a < b"), (A, B))
        self.assertEqual(read_saying("b < a"), (B, A))
        self.assertEqual(read_saying("none < all"), (NONE, ALL))
        self.assertEqual(read_saying("!(a | b) < (c & !d)"), (("not", ("either", A, B)), ("both", C, ("not", D))))

    def test_what_is_written_is_read(self):
        terms = some_terms(400)
        for saying in zip(terms, terms[1:] + terms[:1]):
            text = shown_saying(saying)
            self.assertEqual(read_saying(text), saying)
            self.assertEqual(shown_saying(read_saying(text)), text)

    def test_refused(self):
        texts = (
            "", "a", " < ", "<", "a < ", " < b", "a <", "< b", "a<b", "a< b", "a <b", "a  < b", "a <  b", " a < b", "a < b ",
            "a < b\n", "\na < b", "a <\nb", "a < b < c", "a << b", "a <= b", "a > b", "a = b", "a < < b", "(a < b)", "!a < b <",
            "(a < b) < c", "a < (b < c)", "a & b < c", "a < b | c", "a, b < c", "a < b, c < d", "a < b => c < d", "a < b, ",
            " => a < b", "a < (b)", "(a) < b", "a\t<\tb", "a \u2039 b", "a => b",
        )
        for text in texts:
            self.refused(read_saying, text)

    def test_one_sign_lacking_too_many_or_another(self):
        for text in ("a < b", "!a < none", "(a & !b) < (a | all | b)"):
            self.check_by_signs(read_saying, shown_saying, written_saying, edits(text))

    def test_what_is_no_text(self):
        for thing in NO_TEXTS + ((A, B), ["a", "b"], ("a", "b")):
            self.refused(read_saying, thing)


class ReadRules(Reading):
    def test_to_the_sign(self):
        self.assertEqual(read_rule("a < b"), ([], (A, B)))
        self.assertEqual(read_rule("a < b => c < d"), ([(A, B)], (C, D)))
        self.assertEqual(read_rule("a < b, !b < c => a < none"), ([(A, B), (("not", B), C)], (A, NONE)))
        self.assertEqual(
            read_rule("d < c, b < a, all < b, d < c, (a & b) < d => (a | b) < !c"),
            (
                [(D, C), (B, A), (ALL, B), (D, C), (("both", A, B), D)],
                (("either", A, B), ("not", C)),
            ),
        )

    def test_what_is_written_is_read(self):
        terms = [t for t in some_terms(600) if len(shown(t)) <= 240]
        chance = random.Random(4)
        for many in list(range(6)) * 60:
            sayings = [(chance.choice(terms), chance.choice(terms)) for saying in range(many + 1)]
            rule = (sayings[:-1], sayings[-1])
            text = shown_rule(rule)
            self.assertLessEqual(len(text), 3000)
            self.assertEqual(read_rule(text), rule)
            self.assertEqual(shown_rule(read_rule(text)), text)

    def test_five_premises(self):
        for many in range(1, 6):
            text = ", ".join(["a < b"] * many) + " => b < a"
            self.assertEqual(read_rule(text), ([(A, B)] * many, (B, A)))
        for many in (6, 7, 12, 100):
            self.refused(read_rule, ", ".join(["a < b"] * many) + " => b < a")

    def test_an_empty_premise(self):
        texts = (
            " => a < b", "=> a < b", ",  => a < b", ", => a < b", ", a < b => a < b", "a < b,  => a < b", "a < b, => a < b",
            "a < b, , a < b => a < b", "a < b,, a < b => a < b", "  => a < b", " , a < b => a < b",
        )
        for text in texts:
            self.refused(read_rule, text)

    def test_refused(self):
        texts = (
            "", " ", "a", " => ", "=>", "a < b => ", "a < b =>", "a < b => a", "a => a < b", "a < b=> a < b", "a < b =>a < b",
            "a < b=>a < b", "a < b  => a < b", "a < b =>  a < b", "a < b => a < b => a < b", "a < b =>  => a < b", "a < b, b < c",
            "a < b,b < c => a < c", "a < b , b < c => a < c", "a < b,  b < c => a < c", "a < b, b < c => a < c, a < a",
            "a < b; b < c => a < c", "a < b & b < c => a < c", "a < b -> a < c", "a < b = > a < c", "a < b >= a < c",
            "a < b ==> a < c", "(a < b) => a < c", "(a < b => a < c)", " a < b", "a < b ", "a < b\n", "\na < b => a < c",
            "a < b => a < c\n", "a < b => a < c ", " a < b => a < c", "a < b\n=> a < c", "a < b,\nb < c => a < c",
            "a < b, b => a < c", "a < b, b < c < d => a < c", "a < b => a < c < d", "a < (b) => a < c", "a < b => a & b < c",
        )
        for text in texts:
            self.refused(read_rule, text)

    def test_one_sign_lacking_too_many_or_another(self):
        for text in ("a < b", "a < b => b < a", "a < b, !b < c => a < none", "(a & b) < a, a < a, b < all => !a < (b | b)"):
            self.check_by_signs(read_rule, shown_rule, written_rule, edits(text))

    def test_all_rows_of_few_pieces(self):
        pieces = ("a", "a < a", " < ", ", ", " => ", " ", ",")
        for many in range(6):
            texts = ["".join(row) for row in itertools.product(pieces, repeat=many)]
            self.check_by_signs(read_rule, shown_rule, written_rule, texts)

    def test_three_thousand_signs(self):
        for length in (2999, 3000):
            text = self.rule_of_length(length)
            self.assertEqual(len(text), length)
            self.assertEqual(shown_rule(read_rule(text)), text)
            self.assertEqual(len(read_rule(text)[0]), 5)
        for length in (3001, 3002, 3060):
            text = self.rule_of_length(length)
            self.assertEqual(len(text), length)
            self.refused(read_rule, text)
            for saying in re.split(", | => ", text):
                self.assertEqual(shown_saying(read_saying(saying)), saying)

    def test_three_thousand_signs_of_four_premises(self):
        side = text_of_length(290)
        saying = side + " < " + side
        head = ", ".join([saying] * 4) + " => " + side + " < "
        for length, held in ((2999, True), (3000, True), (3001, False), (3010, False)):
            text = head + text_of_length(length - len(head))
            self.assertEqual(len(text), length)
            if held:
                self.assertEqual(shown_rule(read_rule(text)), text)
            else:
                self.refused(read_rule, text)

    def rule_of_length(self, length):
        side = text_of_length(240)
        saying = side + " < " + side
        head = ", ".join([saying] * 5) + " => " + side + " < "
        return head + text_of_length(length - len(head))

    def test_what_is_no_text(self):
        for thing in NO_TEXTS + ((A, B), ([], (A, B)), ([(A, B)], (A, B)), ["a < b"], (["a < b"], "a < b")):
            self.refused(read_rule, thing)

    def test_each_list_is_the_askers_own(self):
        for text, rule in (("a < b", ([], (A, B))), ("a < b => b < a", ([(A, B)], (B, A)))):
            told = read_rule(text)
            other = read_rule(text)
            told[0].append((C, D))
            self.assertEqual(other, rule)
            self.assertEqual(read_rule(text), rule)


if __name__ == "__main__":
    unittest.main()
