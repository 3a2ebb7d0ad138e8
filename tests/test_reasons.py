"""Points 23 and 24: least sets of rules that do, greatest ones that don't, breaks, and a rule's part."""

import copy
import itertools
import random
import unittest

from checks import Checks, names, spoil, terms_in_order
from samples import A, B, NONE, some_rule, some_saying
from clashbook.errors import NoRule, TooMuch
from clashbook.judge import judge
from clashbook.papers import leans
from clashbook.reasons import breaks, part_of, reasons
from clashbook.sheets import is_sheet, number
from clashbook.texts import read_rule, read_saying

# A both of twenty names needs forty rows: so no other name can stand beside it.
WIDE = ("both", *names(20))


def book_of(*texts):
    return [read_rule(text) for text in texts]


def subsets(many):
    """All sets of places as rising lists, fewer first, of as many by the lists' order."""
    return [list(some) for size in range(many + 1) for some in itertools.combinations(range(many), size)]


def sides(book, saying):
    """The sets of rules from which the saying follows, and those from which it doesn't."""
    following = []
    others = []
    for places in subsets(len(book)):
        follows = judge([book[place] for place in places], saying)[0] == "follows"
        (following if follows else others).append(places)
    return following, others


def reasons_by_hand(book, saying):
    following, others = sides(book, saying)
    supports = [one for one in following if not any(set(other) < set(one) for other in following)]
    opens = [one for one in others if not any(set(other) > set(one) for other in others)]
    return supports, opens


def part_by_hand(supports, place):
    within = [place in support for support in supports]
    return "idle" if not any(within) else "needed" if all(within) else "helps"


class Reasons(Checks):
    def check_support(self, book, saying, places, sheet, lines):
        self.assertTrue(is_sheet(sheet))
        rules = [book[place] for place in places]
        self.assertTrue(all(number(sheet, t) is not None for t in terms_in_order(rules, saying)))
        self.assertEqual(leans(lines), places)
        by_their_own = [
            (i, j, ("rule", places.index(why[1]), why[2])) if why[0] == "rule" else (i, j, why) for i, j, why in lines
        ]
        self.check_paper(rules, saying, sheet, by_their_own)

    def settle(self, book, saying):
        """The places of the supports and of the opens; papers and worlds are looked at on the way."""
        before = copy.deepcopy((book, saying))
        told = reasons(book, saying)
        self.assertEqual((book, saying), before)
        self.assertIs(told.__class__, tuple)
        supports, opens = told
        for support in supports:
            self.assertIs(support.__class__, tuple)
            self.check_support(book, saying, *support)
        for places, world, spot in opens:
            self.check_world([book[place] for place in places], saying, world, spot)
        self.check_lists_apart(supports, opens)
        return [support[0] for support in supports], [each[0] for each in opens]

    def check(self, texts, saying, supports, opens):
        self.assertEqual(self.settle(book_of(*texts), read_saying(saying)), (supports, opens), (texts, saying))

    def test_no_rules(self):
        self.check([], "a < a", [[]], [])
        self.check([], "a < b", [], [[]])

    def test_it_follows_from_no_rules(self):
        self.check(["a < b"], "a < a", [[]], [])
        self.check(["a < b", "all < none", "c < d"], "(a & b) < b", [[]], [])

    def test_it_follows_from_none_of_them(self):
        self.check(["a < b"], "b < a", [], [[0]])
        self.check(["a < b", "b < c", "a < d => c < a"], "c < a", [], [[0, 1, 2]])

    def test_one_rule(self):
        self.check(["a < b"], "a < b", [[0]], [[]])
        self.check(["c < d", "a < b"], "a < b", [[1]], [[0]])

    def test_all_are_needed(self):
        self.check(["a < b", "b < c", "c < d"], "a < d", [[0, 1, 2]], [[0, 1], [0, 2], [1, 2]])

    def test_several_ways(self):
        self.check(
            ["a < b", "b < c", "a < c", "c < d", "a < d", "d < a"], "a < d",
            [[4], [2, 3], [0, 1, 3]], [[0, 3, 5], [1, 3, 5], [0, 1, 2, 5]],
        )
        self.check(["a < b", "a < c", "c < b"], "a < b", [[0], [1, 2]], [[1], [2]])

    def test_the_same_rule_more_than_once(self):
        self.check(["a < b", "a < b"], "a < b", [[0], [1]], [[]])
        self.check(["a < b", "b < c", "a < b"], "a < c", [[0, 1], [1, 2]], [[1], [0, 2]])
        self.check(["a < b"] * 6, "a < b", [[0], [1], [2], [3], [4], [5]], [[]])

    def test_premises(self):
        self.check(
            ["a < b => b < c", "a < b", "b < c", "a < c => c < d"], "a < d",
            [[0, 1, 3], [1, 2, 3]], [[1, 3], [0, 1, 2], [0, 2, 3]],
        )

    def test_rules_that_leave_nothing(self):
        self.check(["all < none", "a < !a", "all < a"], "c < d", [[0], [1, 2]], [[1], [2]])

    def test_six_rules_in_order(self):
        self.check(
            ["e < f", "a < e", "f < d", "d < b", "a < c", "c < d"], "a < b",
            [[3, 4, 5], [0, 1, 2, 3]], [[0, 1, 3, 4], [0, 1, 3, 5], [0, 2, 3, 4], [0, 2, 3, 5],
                                        [1, 2, 3, 4], [1, 2, 3, 5], [0, 1, 2, 4, 5]],
        )

    def test_three_ways_that_share_rules(self):
        self.check(
            ["a < b", "c < d", "a < d", "a < b, c < d => e < f", "a < d => e < f", "a < b, a < d => e < f"], "e < f",
            [[2, 4], [0, 1, 3], [0, 2, 5]],
            [[0, 1, 2], [0, 2, 3], [0, 1, 4, 5], [0, 3, 4, 5], [1, 2, 3, 5], [1, 3, 4, 5]],
        )

    def test_many_books(self):
        chance = random.Random(23)
        seen = []
        for run in range(40):
            book = [some_rule(chance, chance.choice((0, 0, 0, 1))) for rule in range(chance.randint(0, 5))]
            saying = some_saying(chance, chance.choice((0, 0, 1)))
            seen.append(self.check_by_hand(book, saying, chance))
        self.assertGreater(seen.count(0), 5)
        self.assertGreater(seen.count(1), 5)

    # Sayings of two names each, so that there are often several ways.
    def test_many_ways(self):
        chance = random.Random(24)
        terms = [("name", name) for name in "abcd"]
        seen = []
        for run in range(40):
            book = [([], tuple(chance.sample(terms, 2))) for rule in range(chance.randint(3, 5))]
            if chance.random() < 0.7:
                book.insert(chance.randrange(4), ([tuple(chance.sample(terms, 2))], tuple(chance.sample(terms, 2))))
            saying = book[-1][1] if chance.random() < 0.6 else tuple(chance.sample(terms, 2))
            seen.append(self.check_by_hand(book, saying, chance))
        self.assertGreater(len([many for many in seen if many > 1]), 7)

    def check_by_hand(self, book, saying, chance):
        """How many supports there are, all else being as the sets of rules, judged one by one, say."""
        supports, opens = self.settle(book, saying)
        self.assertEqual((supports, opens), reasons_by_hand(book, saying))
        for places in subsets(len(book)):
            has_one = any(set(support) <= set(places) for support in supports)
            lies_in_one = any(set(places) <= set(each) for each in opens)
            self.assertIsNot(has_one, lies_in_one)
        rests = [[place for place in range(len(book)) if place not in each] for each in opens]
        self.assertEqual(breaks(book, saying), sorted(rests, key=lambda rest: (len(rest), rest)))
        if book:
            place = chance.randrange(len(book))
            self.assertEqual(part_of(book, saying, place), part_by_hand(supports, place))
        return len(supports)

    def test_forty_rows(self):
        twenty = names(20)
        book = [([], (twenty[0], part)) for part in twenty[1:7]]
        self.assertEqual(self.settle(book, (twenty[0], ("both", *twenty))), ([], [[0, 1, 2, 3, 4, 5]]))
        six = [([], (NONE, WIDE)), *book[:5]]
        self.assertEqual(self.settle(six, (twenty[0], twenty[3])), ([[3]], [[0, 1, 2, 4, 5]]))

    def test_too_much(self):
        seven = book_of(*["a < b"] * 7)
        wide = book_of("a < b") + [([], (NONE, WIDE))]
        for book, saying in (
            (seven, (A, B)), (seven, (A, A)), (seven + seven, (A, A)), (wide, (A, B)), (wide, (A, A)), (wide, (NONE, A)),
            ([], (A, WIDE)), (book_of("a < b"), (WIDE, WIDE)), ([([(NONE, WIDE)], (A, A))], (A, A)),
        ):
            before = copy.deepcopy((book, saying))
            for asked in (reasons, breaks):
                with self.assertRaises(TooMuch):
                    asked(book, saying)
            for place in range(len(book)):
                with self.assertRaises(TooMuch):
                    part_of(book, saying, place)
            self.assertEqual((book, saying), before)

    def test_the_lists_are_the_askers_own(self):
        book = book_of("a < b", "a < b => b < c", "b < c", "d < a")
        saying = read_saying("a < c")
        first = reasons(book, saying)
        kept = copy.deepcopy(first)
        second = reasons(book, saying)
        self.assertEqual(second, kept)
        self.check_lists_apart(first[0], first[1], second[0], second[1], book)
        spoil(first)
        self.assertEqual(second, kept)
        self.assertEqual(reasons(book, saying), kept)
        book[1][0].clear()
        book.pop()
        self.assertEqual(second, kept)


class Breaks(unittest.TestCase):
    def check(self, texts, saying, asked):
        book = book_of(*texts)
        told = breaks(book, read_saying(saying))
        self.assertEqual(told, asked, (texts, saying))
        self.assertEqual(book, book_of(*texts))

    def test_it_follows_from_no_rules(self):
        self.check([], "a < a", [])
        self.check(["a < b", "b < a"], "a < (a | b)", [])

    def test_it_does_not_follow(self):
        self.check([], "a < b", [[]])
        self.check(["a < b", "b < c"], "c < b", [[]])

    def test_least_sets_without_which_it_is_open(self):
        self.check(["a < b"], "a < b", [[0]])
        self.check(["a < b", "b < c", "c < d"], "a < d", [[0], [1], [2]])
        self.check(["a < b", "a < b"], "a < b", [[0, 1]])
        self.check(["a < b", "b < c", "a < c", "c < d", "a < d", "d < a"], "a < d", [[3, 4], [0, 2, 4], [1, 2, 4]])

    def test_sorted_by_their_own_order(self):
        # The opens are [2] and [0, 1]: in that order their rests would be told the wrong way round.
        self.check(["a < b", "a < b", "b < c"], "a < c", [[2], [0, 1]])
        self.check(["a < b, c < d => a < d", "a < b", "c < d"], "a < d", [[0], [1], [2]])
        self.check(["a < b", "b < c", "a < d", "d < c"], "a < c", [[0, 2], [0, 3], [1, 2], [1, 3]])

    def test_the_lists_are_the_askers_own(self):
        book = book_of("a < b", "b < c")
        saying = read_saying("a < c")
        first = breaks(book, saying)
        second = breaks(book, saying)
        first[0].clear()
        self.assertEqual(second, [[0], [1]])
        self.assertEqual(breaks(book, saying), [[0], [1]])


class Part(unittest.TestCase):
    def check(self, texts, saying, asked):
        book = book_of(*texts)
        told = [part_of(book, read_saying(saying), place) for place in range(len(book))]
        self.assertEqual(told, asked, (texts, saying))
        self.assertEqual(book, book_of(*texts))

    def test_each_word(self):
        self.check(["a < b"], "a < b", ["needed"])
        self.check(["c < d", "a < b"], "a < b", ["idle", "needed"])
        self.check(["a < b", "a < b"], "a < b", ["helps", "helps"])
        self.check(["a < b", "a < c", "c < b", "b < d", "d < c"], "a < d", ["helps", "helps", "helps", "needed", "idle"])

    def test_it_follows_from_no_rules(self):
        self.check(["a < b", "b < a"], "a < a", ["idle", "idle"])

    def test_there_is_no_support(self):
        self.check(["a < b", "b < c"], "c < a", ["idle", "idle"])

    def test_a_place_that_the_book_has_not(self):
        for book in (book_of("a < b", "b < c"), [], book_of(*["a < b"] * 7), [([], (NONE, WIDE)), ([], (A, B))]):
            for saying in ((A, B), (A, A), (A, WIDE)):
                for place in (len(book), len(book) + 1, -1, -len(book), -len(book) - 1, 10 ** 20, -10 ** 20):
                    if not 0 <= place < len(book):
                        with self.assertRaises(NoRule):
                            part_of(book, saying, place)

    def test_truths_are_no_places(self):
        for place in (True, False):
            with self.assertRaises(NoRule):
                part_of(book_of("a < b", "b < c"), (A, B), place)


if __name__ == "__main__":
    unittest.main()
