"""The eight steps: which lines may stand behind which."""

from clashbook.sheets import is_below

# How many lines ahead each step names; the step by a rule names as many as the rule has premises.
LINES_NAMED = {"same": 0, "edge": 0, "part": 0, "both": 2, "turn": 1, "chain": 2, "clash": 1}


def parts_at(sheet, n):
    row = sheet[n // 2]
    return row[1:] if n % 2 == 0 and row[0] == "both" else ()


# What the lines of these numbers say; None for a number that is no line's ahead of line k.
def said_ahead(lines, k, numbers):
    return [(lines[p][0], lines[p][1]) if is_below(p, k) else None for p in numbers]


def is_both(sheet, i, j, said):
    parts = parts_at(sheet, j)
    return parts != () and said == [(i, parts[0]), (i, parts[1])]


def is_chain(i, j, said):
    return said[0][0] == i and said[0][1] == said[1][0] and said[1][1] == j


def is_step_from(sheet, i, j, word, said):
    if word == "same":
        return i == j
    if word == "edge":
        return i == 0 or j == 1
    if word == "part":
        return j in parts_at(sheet, i)
    if word == "both":
        return is_both(sheet, i, j, said)
    if word == "turn":
        return said == [(j ^ 1, i ^ 1)]
    if word == "chain":
        return is_chain(i, j, said)
    return said == [(i, i ^ 1)]


def is_rule_step(rules, lines, k):
    line = lines[k]
    why = line[2]
    if len(why) != 3 or not is_below(why[1], len(rules)) or not isinstance(why[2], tuple):
        return False
    rule = rules[why[1]]
    return (line[0], line[1]) == rule[1] and said_ahead(lines, k, why[2]) == rule[0]


def is_step(sheet, rules, lines, k):
    if not is_below(k, len(lines)):
        return False
    line = lines[k]
    why = line[2]
    if not is_below(line[0], 2 * len(sheet)) or not is_below(line[1], 2 * len(sheet)) or why == ():
        return False
    if why[0] == "rule":
        return is_rule_step(rules, lines, k)
    said = said_ahead(lines, k, why[1:])
    if LINES_NAMED.get(why[0]) != len(said) or None in said:
        return False
    return is_step_from(sheet, line[0], line[1], why[0], said)


def sound(sheet, rules, lines):
    return all([is_step(sheet, rules, lines, k) for k in range(len(lines))])
