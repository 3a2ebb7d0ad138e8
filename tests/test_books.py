"""Points 21 and 22: a book that changes, and the sayings that are watched in it."""

import copy
import random
import unittest

from checks import Checks, names, spoil
from samples import A, ALL, B, C, NONE, some_rule, some_saying
from clashbook.books import Book
from clashbook.errors import NoRule, TooMuch
from clashbook.judge import judge
from clashbook.papers import leans
from clashbook.texts import read_rule, read_saying

# A both of twenty names needs forty rows: so no other name can stand beside it.
WIDE = ("both", *names(20))
WIDE_SAYING = (WIDE, NONE)


def book_of(*texts):
    book = Book()
    for text in texts:
        book.put(read_rule(text))
    return book


def told_by(book, *sayings):
    return [book.ask(read_saying(saying))[0] for saying in sayings]


class Numbers(unittest.TestCase):
    def test_one_more_each_time(self):
        book = Book()
        self.assertEqual([book.put(read_rule(text)) for text in ("a < b", "a < b", "a < b => c < d")], [0, 1, 2])

    def test_no_number_comes_twice(self):
        book = book_of("a < b", "b < c", "c < d")
        book.drop(2)
        self.assertEqual(book.put(read_rule("c < d")), 3)
        for number in (0, 1, 3):
            book.drop(number)
        self.assertEqual(book.put(read_rule("a < b")), 4)
        self.assertEqual(book.rules(), [(4, read_rule("a < b"))])

    def test_drop_tells_none(self):
        book = book_of("a < b", "b < c")
        self.assertIsNone(book.drop(0))
        self.assertIsNone(book.drop(1))
        self.assertEqual(book.rules(), [])

    def test_what_does_not_stand_is_refused(self):
        book = book_of("a < b", "b < c", "c < d")
        book.drop(1)
        before = book.rules()
        for number in (1, 3, -1, -3, 10 ** 30, -10 ** 30):
            with self.assertRaises(NoRule):
                book.drop(number)
            self.assertEqual(book.rules(), before)
        self.assertEqual(book.put(read_rule("a < b")), 3)

    def test_truths_are_no_numbers(self):
        book = book_of("a < b", "b < c")
        for number in (True, False):
            with self.assertRaises(NoRule):
                book.drop(number)
        self.assertEqual([number for number, rule in book.rules()], [0, 1])

    def test_an_empty_book_drops_none(self):
        with self.assertRaises(NoRule):
            Book().drop(0)

    def test_twelve_stand_and_a_thirteenth_is_refused(self):
        book = Book()
        self.assertEqual([book.put(read_rule("a < b")) for k in range(12)], list(range(12)))
        before = book.rules()
        for again in range(3):
            with self.assertRaises(TooMuch):
                book.put(read_rule("c < d"))
            self.assertEqual(book.rules(), before)
        self.assertEqual(told_by(book, "a < b", "c < d"), ["follows", "open"])
        book.drop(4)
        self.assertEqual(book.put(read_rule("c < d")), 12)
        with self.assertRaises(TooMuch):
            book.put(read_rule("c < d"))
        self.assertEqual([number for number, rule in book.rules()], [0, 1, 2, 3, 5, 6, 7, 8, 9, 10, 11, 12])

    def test_only_those_that_stand_are_counted(self):
        book = Book()
        for k in range(40):
            self.assertEqual(book.put(read_rule("a < b")), k)
            if k >= 11:
                book.drop(k - 11)
        self.assertEqual([number for number, rule in book.rules()], list(range(29, 40)))

    def test_a_rule_too_wide_for_the_judge_stands(self):
        book = Book()
        self.assertEqual(book.put(([], (A, WIDE))), 0)
        self.assertEqual(book.rules(), [(0, ([], (A, WIDE)))])
        self.assertIsNone(book.drop(0))


class Rules(Checks):
    def test_rules_as_they_were_put_in(self):
        book = Book()
        self.assertEqual(book.rules(), [])
        texts = ["b < a", "a < b, !b < c => (a & c) < none", "a < b", "a < b"]
        for text in texts:
            book.put(read_rule(text))
        self.assertEqual(book.rules(), [(k, read_rule(text)) for k, text in enumerate(texts)])
        book.drop(2)
        self.assertEqual(book.rules(), [(k, read_rule(texts[k])) for k in (0, 1, 3)])
        for pair in book.rules():
            self.assertIs(pair.__class__, tuple)

    def test_what_is_changed_behind_the_put(self):
        book = Book()
        rule = read_rule("a < b => b < c")
        book.put(rule)
        rule[0].clear()
        self.assertEqual(book.rules(), [(0, read_rule("a < b => b < c"))])
        self.assertEqual(told_by(book, "b < c"), ["open"])
        rule[0].extend([(A, A)] * 5)
        self.assertEqual(told_by(book, "b < c"), ["open"])
        book.put(rule)
        self.assertEqual(told_by(book, "b < c"), ["follows"])
        self.assertEqual(rule, ([(A, A)] * 5, (B, C)))

    def test_one_list_put_in_twice(self):
        book = Book()
        premises = [(A, B)]
        book.put((premises, (B, C)))
        premises.append((C, A))
        book.put((premises, (B, A)))
        self.assertEqual(premises, [(A, B), (C, A)])
        self.assertEqual(book.rules(), [(0, ([(A, B)], (B, C))), (1, ([(A, B), (C, A)], (B, A)))])

    def test_what_is_changed_behind_the_rules(self):
        book = book_of("a < b => b < c", "c < d")
        told = book.rules()
        told[0][1][0].clear()
        told[1][1][0].append((A, B))
        told.pop()
        self.assertEqual(book.rules(), [(0, read_rule("a < b => b < c")), (1, read_rule("c < d"))])
        self.assertEqual(told_by(book, "b < c", "c < d"), ["open", "follows"])

    def test_rules_that_were_told_stay(self):
        book = book_of("a < b => b < c", "c < d")
        told = book.rules()
        kept = copy.deepcopy(told)
        again = book.rules()
        self.check_lists_apart(told, again)
        book.drop(0)
        book.put(read_rule("d < a"))
        self.assertEqual(told, kept)
        self.assertEqual(again, kept)

    def test_two_books_side_by_side(self):
        one, other = Book(), Book()
        rule = read_rule("a < a => a < b")
        self.assertEqual((one.put(rule), one.put(rule), other.put(rule)), (0, 1, 0))
        self.assertEqual(one.watch((A, B)), (0, True))
        self.assertEqual(other.watch((A, B)), (0, True))
        one.drop(0)
        one.drop(1)
        self.assertEqual(one.rules(), [])
        self.assertEqual(other.rules(), [(0, rule)])
        self.assertEqual(told_by(one, "a < b"), ["open"])
        self.assertEqual(told_by(other, "a < b"), ["follows"])
        self.assertEqual(one.news(), [(0, False)])
        self.assertEqual(other.news(), [])
        with self.assertRaises(NoRule):
            one.drop(0)


class Ask(Checks):
    def settle(self, book, saying):
        """Whether a saying follows; the paper's rules are those of the book's numbers."""
        standing = book.rules()
        rules = [rule for number, rule in standing]
        answer = book.ask(saying)
        self.assertIs(answer.__class__, tuple)
        self.assertEqual(book.rules(), standing)
        plain = judge(rules, saying)
        self.assertEqual(answer[0], plain[0])
        if answer[0] == "follows":
            places = {number: place for place, (number, rule) in enumerate(standing)}
            lines = [
                (i, j, ("rule", places[why[1]], why[2])) if why[0] == "rule" else (i, j, why) for i, j, why in answer[2]
            ]
            self.assertEqual(answer[1], plain[1])
            self.check_paper(rules, saying, answer[1], lines)
        else:
            self.assertEqual(answer[0], "open")
            self.check_world(rules, saying, answer[1], answer[2])
        return answer[0] == "follows"

    def test_an_empty_book(self):
        self.assertIs(self.settle(Book(), (A, A)), True)
        self.assertIs(self.settle(Book(), (A, B)), False)

    def test_what_stands_and_what_is_gone(self):
        book = book_of("a < b", "b < c", "a < c => c < d")
        self.assertIs(self.settle(book, read_saying("a < d")), True)
        book.drop(1)
        self.assertIs(self.settle(book, read_saying("a < d")), False)
        book.put(read_rule("b < c"))
        self.assertIs(self.settle(book, read_saying("a < d")), True)

    def test_papers_have_the_books_numbers(self):
        book = book_of("d < d", "a < b", "d < d", "b < c", "d < d")
        for number in (0, 2, 4):
            book.drop(number)
        self.assertEqual(book.put(read_rule("a < c => c < d")), 5)
        answer = book.ask(read_saying("a < d"))
        self.assertEqual(leans(answer[2]), [1, 3, 5])
        said = {why[1]: (i, j, len(why[2])) for i, j, why in answer[2] if why[0] == "rule"}
        self.assertEqual(answer[1][1:], [("name", name) for name in "abcd"])
        self.assertEqual(said, {1: (2, 4, 0), 3: (4, 6, 0), 5: (6, 8, 1)})
        self.assertIs(self.settle(book, read_saying("a < d")), True)

    def test_the_order_of_the_sheet(self):
        book = book_of("e < e", "b < a", "d < c")
        book.drop(0)
        book.put(read_rule("f < b"))
        sheet = book.ask(read_saying("none < g"))[1]
        self.assertEqual(sheet, [NONE, *[("name", name) for name in "badcfg"]])

    def test_too_much_for_the_judge(self):
        book = book_of("a < b")
        with self.assertRaises(TooMuch):
            book.ask(WIDE_SAYING)
        self.assertEqual(book.rules(), [(0, read_rule("a < b"))])
        book.drop(0)
        self.assertIs(self.settle(book, WIDE_SAYING), False)
        book.put(([], WIDE_SAYING))
        self.assertIs(self.settle(book, WIDE_SAYING), True)
        with self.assertRaises(TooMuch):
            book.ask((A, A))
        book.drop(1)
        self.assertIs(self.settle(book, (A, A)), True)

    def test_answers_stay_as_they_were(self):
        book = book_of("a < b", "b < c")
        sayings = [read_saying("a < c"), read_saying("c < a")]
        told = [book.ask(saying) for saying in sayings]
        kept = copy.deepcopy(told)
        again = [book.ask(saying) for saying in sayings]
        self.check_lists_apart(told, again)
        book.drop(0)
        book.put(read_rule("c < a"))
        for saying in sayings:
            book.ask(saying)
        self.assertEqual(told, kept)
        self.assertEqual(again, kept)

    def test_answers_that_are_changed(self):
        book = book_of("a < b", "b < c")
        for saying in (read_saying("a < c"), read_saying("c < a")):
            told = book.ask(saying)
            kept = copy.deepcopy(told)
            spoil(told)
            self.assertEqual(book.ask(saying), kept)

    def test_many_changes(self):
        chance = random.Random(31)
        seen = []
        for run in range(25):
            book = Book()
            model = {}
            for k in range(chance.randint(2, 8)):
                rule = some_rule(chance, chance.choice((0, 0, 0, 1)))
                self.assertEqual(book.put(rule), k)
                model[k] = rule
                if chance.random() < 0.4:
                    gone = chance.choice(sorted(model))
                    book.drop(gone)
                    del model[gone]
                self.assertEqual(book.rules(), sorted(model.items()))
                seen.append(self.settle(book, some_saying(chance, 1)))
        self.assertGreater(seen.count(True), 20)
        self.assertGreater(seen.count(False), 20)


class Watch(Checks):
    def test_numbers_are_counted_apart(self):
        book = book_of("a < b", "b < c")
        told = [book.watch(read_saying(text)) for text in ("a < b", "c < a", "a < b", "a < a")]
        self.assertEqual(told, [(0, True), (1, False), (2, True), (3, True)])
        self.assertEqual(book.put(read_rule("c < d")), 2)
        self.assertEqual(book.watch((A, C)), (4, True))
        for pair in told:
            self.assertIs(pair.__class__, tuple)
            self.assertIs(pair[1].__class__, bool)

    def test_dropped_rules_are_watched_on(self):
        book = book_of("a < b")
        book.watch((A, B))
        book.drop(0)
        self.assertEqual(book.watch((A, B)), (1, False))
        self.assertEqual(book.news(), [(0, False)])

    def test_no_news(self):
        self.assertEqual(Book().news(), [])
        book = book_of("a < b")
        book.watch((A, B))
        book.watch((B, A))
        self.assertEqual(book.news(), [])

    def test_news_of_what_changed(self):
        book = Book()
        for text in ("a < b", "b < c", "a < c", "a < a", "c < a"):
            book.watch(read_saying(text))
        book.put(read_rule("b < c"))
        self.assertEqual(book.news(), [(1, True)])
        self.assertEqual(book.news(), [])
        book.put(read_rule("a < b"))
        self.assertEqual(book.news(), [(0, True), (2, True)])
        self.assertEqual(book.news(), [])
        book.drop(0)
        told = book.news()
        self.assertEqual(told, [(1, False), (2, False)])
        self.assertEqual(book.news(), [])
        for pair in told:
            self.assertIs(pair.__class__, tuple)
            self.assertIs(pair[1], False)

    def test_what_came_and_went_is_no_news(self):
        book = Book()
        book.watch((A, B))
        number = book.put(read_rule("a < b"))
        book.drop(number)
        self.assertEqual(book.news(), [])
        book.put(read_rule("a < b"))
        book.put(read_rule("a < b"))
        book.drop(1)
        self.assertEqual(book.news(), [(0, True)])
        book.drop(2)
        book.put(read_rule("a < c"))
        book.put(read_rule("c < b"))
        self.assertEqual(book.news(), [])

    def test_one_saying_watched_twice(self):
        book = Book()
        self.assertEqual(book.watch((A, B)), (0, False))
        book.put(read_rule("a < b"))
        self.assertEqual(book.watch((A, B)), (1, True))
        self.assertEqual(book.news(), [(0, True)])
        book.drop(0)
        self.assertEqual(book.news(), [(0, False), (1, False)])

    def test_to_ask_tells_nothing_of_watched_ones(self):
        book = Book()
        book.watch((A, B))
        book.put(read_rule("a < b"))
        self.assertEqual(book.ask((A, B))[0], "follows")
        book.rules()
        self.assertEqual(book.news(), [(0, True)])
        book.drop(0)
        self.assertEqual(book.ask((A, B))[0], "open")
        self.assertEqual(book.news(), [(0, False)])

    def test_a_refused_watch_has_no_number(self):
        book = book_of("a < b")
        self.assertEqual(book.watch((A, B)), (0, True))
        for again in range(2):
            with self.assertRaises(TooMuch):
                book.watch(WIDE_SAYING)
        self.assertEqual(book.news(), [])
        self.assertEqual(book.watch((B, A)), (1, False))
        with self.assertRaises(TooMuch):
            book.watch((A, ("either", *names(20), A)))
        self.assertEqual(book.watch((A, A)), (2, True))
        book.drop(0)
        self.assertEqual(book.news(), [(0, False)])

    def test_refused_news_tell_nothing(self):
        # The refused saying stands first, in the middle and last among those watched.
        for order in ((0, 1, 2), (1, 0, 2), (1, 2, 0)):
            sayings = [(names(1)[0], WIDE), (A, B), (A, ALL)]
            book = Book()
            for k in order:
                book.watch(sayings[k])
            number = book.put(read_rule("a < b"))
            for again in range(2):
                with self.assertRaises(TooMuch):
                    book.news()
            self.assertEqual(book.rules(), [(number, read_rule("a < b"))])
            book.drop(number)
            self.assertEqual(book.news(), [])
            number = book.put(([], (ALL, NONE)))
            self.assertEqual(book.news(), sorted([(order.index(0), True), (order.index(1), True)]))

    def test_news_by_rising_numbers(self):
        book = Book()
        for k in range(12):
            self.assertEqual(book.watch((A, (B, C, A)[k % 3])), (k, k % 3 == 2))
        book.put(([], (A, NONE)))
        self.assertEqual(book.news(), [(k, True) for k in range(12) if k % 3 != 2])
        book.drop(0)
        book.put(([], (A, B)))
        self.assertEqual(book.news(), [(k, False) for k in range(12) if k % 3 == 1])

    def test_news_that_are_changed(self):
        book = Book()
        book.watch((A, B))
        book.put(read_rule("a < b"))
        told = book.news()
        again = book.news()
        self.check_lists_apart(told, again)
        told.clear()
        again.append((0, False))
        self.assertEqual(book.news(), [])
        book.drop(0)
        self.assertEqual(book.news(), [(0, False)])

    def test_many_changes(self):
        chance = random.Random(32)
        for run in range(15):
            book = Book()
            watched = []
            for step in range(20):
                roll = chance.random()
                standing = [number for number, rule in book.rules()]
                if roll < 0.4 and len(standing) < 12:
                    book.put(some_rule(chance, 0))
                elif roll < 0.6 and standing:
                    book.drop(chance.choice(standing))
                elif roll < 0.8:
                    saying = some_saying(chance, 0)
                    truth = self.truth(book, saying)
                    self.assertEqual(book.watch(saying), (len(watched), truth))
                    watched.append([saying, truth])
                else:
                    self.check_news(book, watched)
            self.check_news(book, watched)

    def truth(self, book, saying):
        return judge([rule for number, rule in book.rules()], saying)[0] == "follows"

    def check_news(self, book, watched):
        asked = []
        for k, pair in enumerate(watched):
            truth = self.truth(book, pair[0])
            if truth != pair[1]:
                asked.append((k, truth))
                pair[1] = truth
        self.assertEqual(book.news(), asked)


if __name__ == "__main__":
    unittest.main()
