"""A book that changes: rules come and go, and sayings are watched."""

from clashbook.errors import NoRule, TooMuch
from clashbook.judge import judge
from clashbook.papers import with_rules_as
from clashbook.sheets import is_whole

MOST_RULES = 12


# The premises are a rule's one part that could be changed from outside.
def copied(rule):
    return (list(rule[0]), rule[1])


# `standing` has the rules by their numbers, which rise; `watched` the sayings by theirs,
# and `truths` what was told of each one last.
class Book:
    def __init__(self):
        self.standing = {}
        self.numbers_used = 0
        self.watched = []
        self.truths = []

    def put(self, rule):
        if len(self.standing) >= MOST_RULES:
            raise TooMuch("no more rules can stand")
        number = self.numbers_used
        self.standing[number] = copied(rule)
        self.numbers_used += 1
        return number

    def drop(self, number):
        if not is_whole(number) or number not in self.standing:
            raise NoRule(f"no rule {number!r} stands")
        self.standing.pop(number)

    def rules(self):
        return [(number, copied(rule)) for number, rule in self.standing.items()]

    def ask(self, saying):
        answer = judge(list(self.standing.values()), saying)
        if answer[0] == "follows":
            return ("follows", answer[1], with_rules_as(answer[2], list(self.standing)))
        return answer

    def is_true(self, saying):
        return self.ask(saying)[0] == "follows"

    def watch(self, saying):
        truth = self.is_true(saying)
        self.watched.append(saying)
        self.truths.append(truth)
        return (len(self.watched) - 1, truth)

    def news(self):
        # All truths are found first: where one is refused, none is told.
        truths = [self.is_true(saying) for saying in self.watched]
        told = [(number, truth) for number, truth in enumerate(truths) if truth != self.truths[number]]
        self.truths = truths
        return told
