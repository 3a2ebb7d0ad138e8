"""Terms, sayings and rules as texts: written, and read to the sign."""

from clashbook.errors import NoText
from clashbook.terms import LETTERS, WORDS, is_name, leaves

JOINTS = {"both": " & ", "either": " | "}
UNDER = " < "
COMMA = ", "
ARROW = " => "
MOST_SIGNS_OF_TERM = 400
MOST_SIGNS_OF_RULE = 3000
MOST_DEEP = 20
MOST_LEAVES = 60
MOST_PREMISES = 5


def shown(t):
    if t[0] == "name":
        return t[1]
    if t[0] == "not":
        return "!" + shown(t[1])
    if t[0] in WORDS:
        return t[0]
    joint = JOINTS[t[0]]
    return "(" + joint.join([shown(part) for part in t[1:]]) + ")"


def shown_saying(saying):
    return shown(saying[0]) + UNDER + shown(saying[1])


def shown_rule(rule):
    said = shown_saying(rule[1])
    if not rule[0]:
        return said
    return COMMA.join([shown_saying(premise) for premise in rule[0]]) + ARROW + said


def need(held, words):
    if not held:
        raise NoText(words)


# Walks one text from the left; `at` is the place of the first sign not yet read.
class Reader:
    def __init__(self, text):
        self.text = text
        self.at = 0

    def take(self, signs):
        if not self.text.startswith(signs, self.at):
            return False
        self.at += len(signs)
        return True

    # `room` is how deep the term may still be: a text of brackets alone ends here, not in Python's own bound.
    def term(self, room):
        need(room >= 0, "a term is too deep")
        if self.take("!"):
            return ("not", self.term(room - 1))
        if self.take("("):
            return self.bracket(room - 1)
        return self.leaf()

    # The first joint settles the kind; another one further on is then a sign too many.
    def bracket(self, room):
        parts = [self.term(room)]
        kind = "both" if self.text.startswith(JOINTS["both"], self.at) else "either"
        while self.take(JOINTS[kind]):
            parts.append(self.term(room))
        need(len(parts) > 1, "brackets round fewer than two parts")
        need(self.take(")"), "a bracket is not closed")
        return (kind,) + tuple(parts)

    def leaf(self):
        start = self.at
        while self.at < len(self.text) and self.text[self.at] in LETTERS:
            self.at += 1
        word = self.text[start:self.at]
        if word in WORDS:
            return (word,)
        need(is_name(word), "a name is lacking or too long")
        return ("name", word)


def read(text):
    need(isinstance(text, str), "a term is read from a text")
    need(len(text) <= MOST_SIGNS_OF_TERM, "a term has too many signs")
    reader = Reader(text)
    t = reader.term(MOST_DEEP)
    need(reader.at == len(text), "signs behind the term")
    need(leaves(t) <= MOST_LEAVES, "a term has too many leaves")
    return t


def read_saying(text):
    need(isinstance(text, str), "a saying is read from a text")
    sides = text.split(UNDER)
    need(len(sides) == 2, "a saying has two terms")
    return (read(sides[0]), read(sides[1]))


def read_rule(text):
    need(isinstance(text, str), "a rule is read from a text")
    need(len(text) <= MOST_SIGNS_OF_RULE, "a rule has too many signs")
    halves = text.split(ARROW)
    if len(halves) == 1:
        return ([], read_saying(text))
    need(len(halves) == 2, "a rule has one saying behind its premises")
    premises = halves[0].split(COMMA)
    need(len(premises) <= MOST_PREMISES, "a rule has too many premises")
    return ([read_saying(premise) for premise in premises], read_saying(halves[1]))
