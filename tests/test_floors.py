"""Points 4, 5 and 18: counters, values, what is a world, what holds in one."""

import copy
import itertools
import random
import unittest

from samples import (
    A, ALL, B, C, D, NONE, counter_by_hand, fits_by_hand, holds_by_hand, some_rule, some_saying, some_term, some_world,
    value_by_hand,
)
from clashbook.errors import ClashError, NoName
from clashbook.floors import counter, fits, holds, is_world, value
from clashbook.texts import read, read_rule, read_saying

# A ring of five spots: each clashes with its two neighbours.
RING = [(0, 1), (0, 4), (1, 2), (2, 3), (3, 4)]
# Two pairs of clashing spots: four full sets of one spot, none of which is under another.
PAIRS = (4, [(0, 1), (2, 3)], [("a", [0]), ("b", [1]), ("c", [2]), ("d", [3])])
LONE = (1, [], [("a", []), ("b", [0])])
EZ = ("name", "z")


class Counter(unittest.TestCase):
    def check(self, many, clashes, spots, asked):
        before = copy.deepcopy((clashes, spots))
        told = counter(many, clashes, spots)
        self.assertEqual((clashes, spots), before)
        self.assertIs(told.__class__, list)
        self.assertEqual(told, asked)

    def test_of_no_spots_all(self):
        self.check(1, [], [], [0])
        self.check(4, [], [], [0, 1, 2, 3])
        self.check(5, RING, [], [0, 1, 2, 3, 4])
        self.check(80, [(3, 70)], [], list(range(80)))

    def test_of_one_spot(self):
        self.check(1, [], [0], [])
        self.check(5, RING, [0], [1, 4])
        self.check(5, RING, [1], [0, 2])
        self.check(5, RING, [4], [0, 3])
        self.check(3, [(0, 2)], [0], [2])
        self.check(3, [(0, 2)], [2], [0])
        self.check(3, [(0, 2)], [1], [])

    def test_of_more_spots(self):
        self.check(5, RING, [0, 2], [1])
        self.check(5, RING, [1, 4], [0])
        self.check(5, RING, [0, 1], [])
        self.check(5, RING, [0, 1, 2, 3, 4], [])
        self.check(4, [(0, 1), (0, 2), (0, 3), (1, 2)], [1, 2], [0])
        self.check(4, [(0, 1), (0, 2), (0, 3), (1, 2)], [0], [1, 2, 3])

    def test_of_what_is_told(self):
        told = counter(5, RING, [1, 4])
        self.check(5, RING, told, [1, 4])
        self.check(5, RING, counter(5, RING, [0, 1]), [0, 1, 2, 3, 4])
        told.append(3)
        self.assertEqual(counter(5, RING, [1, 4]), [0])

    def test_all_small_floors(self):
        for many in (1, 2, 3, 4):
            pairs = list(itertools.combinations(range(many), 2))
            for bits in itertools.product((False, True), repeat=len(pairs)):
                clashes = list(itertools.compress(pairs, bits))
                for chosen in itertools.product((False, True), repeat=many):
                    spots = list(itertools.compress(range(many), chosen))
                    self.check(many, clashes, spots, sorted(counter_by_hand(many, clashes, spots)))

    def test_eighty_spots_and_more(self):
        chance = random.Random(4)
        for many in (79, 80, 81, 100):
            many, clashes, names = some_world(chance, many)
            for spots in ([], [0], [many - 1], [3, 40, many - 2], list(range(many))):
                self.check(many, clashes, spots, sorted(counter_by_hand(many, clashes, spots)))


class Value(unittest.TestCase):
    def check(self, world, text, asked):
        before = copy.deepcopy(world)
        told = value(world, read(text))
        self.assertEqual(world, before)
        self.assertIs(told.__class__, list)
        self.assertEqual(told, asked, text)

    def test_leaves(self):
        self.check(PAIRS, "none", [])
        self.check(PAIRS, "all", [0, 1, 2, 3])
        self.check(PAIRS, "a", [0])
        self.check(PAIRS, "d", [3])
        self.check(LONE, "a", [])
        self.check(LONE, "b", [0])
        self.check((1, [], []), "none", [])
        self.check((2, [], []), "all", [0, 1])

    def test_not(self):
        self.check(PAIRS, "!a", [1])
        self.check(PAIRS, "!!a", [0])
        self.check(PAIRS, "!none", [0, 1, 2, 3])
        self.check(PAIRS, "!all", [])
        self.check(LONE, "!a", [0])
        self.check(LONE, "!b", [])

    def test_both(self):
        self.check(PAIRS, "(a & b)", [])
        self.check(PAIRS, "(a & a)", [0])
        self.check(PAIRS, "(a & all)", [0])
        self.check(PAIRS, "(a & !b & all)", [0])
        self.check(PAIRS, "(a & !b & c)", [])
        world = (5, [], [("a", [0, 1, 2, 3, 4])])
        self.check(world, "(a & all & all & a)", [0, 1, 2, 3, 4])
        world = (4, [(0, 1), (0, 2), (0, 3), (1, 2), (1, 3), (2, 3)], [("a", [0, 1, 2]), ("b", [1, 2, 3]), ("c", [0, 2])])
        self.check(world, "(a & b)", [1, 2])
        self.check(world, "(a & b & c)", [2])
        self.check(world, "(a & b & !c)", [1])

    def test_either(self):
        self.check(PAIRS, "(a | none)", [0])
        self.check(PAIRS, "(a | b)", [0, 1, 2, 3])
        self.check(PAIRS, "(a | c)", [0, 1, 2, 3])
        self.check(PAIRS, "(a | a | none)", [0])
        self.check(PAIRS, "(none | none)", [])
        self.check(PAIRS, "(a & (b | c))", [0])
        self.check(PAIRS, "((a & b) | (a & c))", [])
        world = (4, [(0, 1), (0, 2), (0, 3), (1, 2), (1, 3), (2, 3)], [("a", [0]), ("b", [1]), ("c", [3])])
        self.check(world, "(a | b)", [0, 1])
        self.check(world, "(a | b | c)", [0, 1, 3])
        self.check(world, "(c | none | a | !all)", [0, 3])

    # Spot 2 clashes with what clashes with 0 and 1 both: so it lies in their either, though in neither of them.
    def test_an_either_has_more_than_its_parts(self):
        world = (4, [(0, 1), (0, 3), (1, 3), (2, 3)], [("a", [0]), ("b", [1])])
        self.assertTrue(is_world(world))
        self.check(world, "(a | b)", [0, 1, 2])

    def test_a_lacking_name(self):
        for t in (C, ("not", C), ("both", A, C), ("either", C, B), ("both", NONE, C), ("either", ALL, B, ("not", ("not", C)))):
            with self.assertRaises(NoName):
                value(LONE, t)
        with self.assertRaises(NoName):
            value((1, [], []), A)
        with self.assertRaises(ClashError):
            value(LONE, ("name", "aa"))
        self.assertEqual(value(LONE, ("both", A, B)), [])

    def test_the_list_is_the_askers_own(self):
        world = copy.deepcopy(PAIRS)
        told = value(world, A)
        self.assertIsNot(told, world[2][0][1])
        told.append(7)
        self.assertEqual(world, PAIRS)
        self.assertEqual(value(world, A), [0])
        kept = value(world, C)
        world[2][2][1].append(3)
        self.assertEqual(kept, [2])

    def test_by_hand(self):
        chance = random.Random(5)
        for run in range(400):
            world = some_world(chance, chance.randint(1, 9))
            t = some_term(chance, chance.randint(0, 5))
            before = copy.deepcopy(world)
            told = value(world, t)
            self.assertEqual(world, before)
            self.assertEqual(told, sorted(value_by_hand(world, t)), (world, t))
            many, clashes = world[:2]
            self.assertEqual(set(told), counter_by_hand(many, clashes, counter_by_hand(many, clashes, told)))

    def test_eighty_spots_and_more(self):
        chance = random.Random(6)
        for many in (80, 81, 100):
            world = some_world(chance, many)
            for text in ("(a | b)", "(!a & (b | !c) & d)", "!(a & b & c)"):
                self.check(world, text, sorted(value_by_hand(world, read(text))))

    # A term that a sheet tells may be some fifty deep.
    def test_deep_terms(self):
        t = A
        for k in range(30):
            t = ("either", ("not", t), B)
        self.assertEqual(value(PAIRS, t), sorted(value_by_hand(PAIRS, t)))


class IsWorld(unittest.TestCase):
    def check(self, world, asked):
        before = copy.deepcopy(world)
        self.assertIs(is_world(world), asked, world)
        self.assertEqual(world, before)

    def test_worlds(self):
        self.check((1, [], []), True)
        self.check(LONE, True)
        self.check(PAIRS, True)
        self.check((5, RING, []), True)
        self.check((5, RING, [("a", [0]), ("b", [0, 2]), ("c", [0, 1, 2, 3, 4]), ("d", [])]), True)
        self.check((3, [], [("ab", []), ("abcdefgh", [0, 1, 2]), ("b", [])]), True)
        self.check((2, [(0, 1)], [("a", []), ("aa", [0]), ("ab", [1]), ("b", [0, 1])]), True)

    def test_no_spots(self):
        self.check((0, [], []), False)
        self.check((-1, [], []), False)
        self.check((-5, [], []), False)
        self.check((0, [], [("a", [])]), False)
        self.check((0, [(0, 1)], [("a", [0])]), False)

    def test_spoiled_clashes(self):
        sets = [("a", [])]
        self.check((4, [(0, 1), (0, 3), (1, 2)], []), True)
        for clashes in (
            [(1, 0), (2, 3)], [(0, 1), (3, 2)],
            [(0, 0), (0, 1)], [(0, 1), (3, 3)],
            [(0, 1), (0, 1)], [(0, 1), (1, 2), (1, 2)], [(0, 1), (1, 0)],
            [(0, 1), (0, 4)], [(0, 1), (3, 4)], [(4, 5)], [(0, 99)],
            [(-1, 0)], [(-1, 2), (0, 1)], [(-2, -1), (0, 1)],
            [(0, 3), (0, 1)], [(2, 3), (0, 1)], [(0, 1), (2, 3), (1, 2)],
        ):
            self.check((4, clashes, []), False)
            self.check((4, clashes, sets), False)

    def test_sets_that_are_not_full(self):
        self.check((2, [], [("a", [0])]), False)
        self.check((2, [], [("a", [])]), True)
        self.check((5, RING, [("a", [0, 1])]), False)
        self.check((5, RING, [("a", [0, 2])]), True)
        self.check((5, RING, [("a", [0]), ("b", [0, 1, 2])]), False)
        self.check((3, [(0, 1)], [("a", [2])]), False)
        self.check((3, [(0, 1)], [("a", [0, 1])]), False)
        self.check((2, [(0, 1)], [("a", [0]), ("b", [1])]), True)

    # The counter of the set of all spots is empty but for spots that clash with themselves, which there are none of.
    def test_all_and_none_are_always_full(self):
        chance = random.Random(7)
        for run in range(50):
            many, clashes, names = some_world(chance, chance.randint(1, 9))
            self.check((many, clashes, [("a", []), ("b", list(range(many)))]), True)

    def test_spoiled_sets(self):
        ring = (5, RING)
        self.check((*ring, [("a", [0, 2])]), True)
        for spots in ([2, 0], [0, 0], [0, 0, 2], [0, 2, 2], [0, 2, 5], [0, 5], [5], [-1, 0, 2], [-5], [0, 2, 0], [4, 3, 2, 1, 0]):
            self.check((*ring, [("a", spots)]), False)
            self.check((*ring, [("a", [0, 2]), ("b", spots)]), False)
            self.check((*ring, [("a", spots), ("b", [0, 2])]), False)

    def test_spoiled_names(self):
        for names in (("b", "a"), ("a", "a"), ("a", "b", "a"), ("a", "c", "b"), ("b", "ab"), ("a", "b", "b"), ("aa", "a")):
            self.check((2, [(0, 1)], [(name, [0]) for name in names]), False)
            self.check((2, [(0, 1)], [(name, [0]) for name in sorted(set(names))]), True)
        self.check((2, [(0, 1)], [("a", [0]), ("a", [1])]), False)
        self.check((2, [(0, 1)], [("a", [1]), ("a", [0])]), False)

    def test_what_is_no_name_or_no_whole_number(self):
        for name in ("none", "all", "", "A", "a b", "abcdefghi", "a1"):
            self.check((2, [(0, 1)], [(name, [0])]), False)
        self.check((True, [], []), False)
        self.check((3, [(False, True)], []), False)
        self.check((2, [(0, 1)], [("a", [False, True])]), False)

    def test_some_and_spoiled(self):
        chance = random.Random(8)
        for run in range(200):
            many = chance.randint(2, 8)
            world = some_world(chance, many)
            self.check(world, True)
            clashes, names = world[1:]
            spots = sorted(chance.sample(range(many), chance.randint(0, many)))
            is_full = counter_by_hand(many, clashes, counter_by_hand(many, clashes, spots)) == set(spots)
            self.check((many, clashes, names[:2] + [("e", spots)]), is_full)
            self.check((many, clashes, names[::-1]), False)
            if clashes:
                last = clashes[-1]
                self.check((last[1], clashes, []), False)
                self.check((many, clashes + [last], []), False)
                self.check((many, clashes[:-1] + [last[::-1]], []), False)

    def test_eighty_spots_and_more(self):
        chance = random.Random(9)
        for many in (80, 81, 100):
            world = some_world(chance, many)
            self.check(world, True)
            self.check((many, world[1], world[2] + [("e", [many])]), False)


class Holds(unittest.TestCase):
    def check(self, world, text, asked):
        before = copy.deepcopy(world)
        self.assertIs(holds(world, read_saying(text)), asked, text)
        self.assertEqual(world, before)

    def check_rule(self, world, text, asked):
        rule = read_rule(text)
        before = copy.deepcopy((world, rule))
        self.assertIs(fits(world, rule), asked, text)
        self.assertEqual((world, rule), before)

    def test_sayings(self):
        for text, asked in (
            ("none < a", True), ("a < all", True), ("a < a", True), ("a < b", False), ("b < a", False), ("a < !b", True),
            ("!b < a", True), ("(a & b) < none", True), ("all < (a | b)", True), ("all < (a | c)", True),
            ("all < none", False), ("a < none", False), ("(a & (b | c)) < ((a & b) | (a & c))", False), ("all < a", False),
        ):
            self.check(PAIRS, text, asked)
        self.check((1, [], []), "all < none", False)
        self.check((1, [], []), "none < none", True)

    def test_rules_without_premises(self):
        self.check_rule(PAIRS, "a < !b", True)
        self.check_rule(PAIRS, "a < b", False)
        self.check_rule(PAIRS, "all < none", False)

    def test_rules_with_premises(self):
        for text, asked in (
            ("a < b => a < b", True), ("a < b => all < none", True), ("a < !b => a < b", False),
            ("a < !b => a < a", True), ("a < b => c < c", True), ("a < a, b < b => a < b", False),
            ("a < a, a < b => c < d", True), ("a < b, a < a => c < d", True), ("a < a, b < b, c < c => c < !d", True),
            ("a < a, b < b, c < c, d < d, a < b => c < d", True), ("a < a, b < b, c < c, d < d, a < !b => c < d", False),
        ):
            self.check_rule(PAIRS, text, asked)

    def test_a_lacking_name(self):
        for saying in ((EZ, EZ), (A, EZ), (EZ, A), (NONE, EZ), (EZ, ALL), (("both", NONE, EZ), A), (A, ("either", A, EZ))):
            with self.assertRaises(NoName):
                holds(PAIRS, saying)
            with self.assertRaises(NoName):
                fits(PAIRS, ([], saying))

    def test_a_premises_lacking_name(self):
        false = (A, B)
        true = (A, A)
        lacking = (NONE, EZ)
        for premises in ([lacking], [false, lacking], [lacking, false], [true, lacking], [false, true, lacking, false]):
            for saying in (true, false, lacking):
                with self.assertRaises(NoName):
                    fits(PAIRS, (premises, saying))
        for premises in ([], [false], [true], [false, false]):
            with self.assertRaises(NoName):
                fits(PAIRS, (premises, lacking))

    def test_by_hand(self):
        chance = random.Random(10)
        seen = set()
        for run in range(400):
            world = some_world(chance, chance.randint(1, 6))
            saying = some_saying(chance, 2)
            rule = some_rule(chance, 1)
            before = copy.deepcopy((world, saying, rule))
            told = (holds(world, saying), fits(world, rule))
            self.assertEqual((world, saying, rule), before)
            self.assertEqual(told, (holds_by_hand(world, saying), fits_by_hand(world, rule)))
            seen.add(told)
        self.assertEqual(len(seen), 4)

    def test_more_premises_than_a_rule_has(self):
        true = (A, A)
        self.assertIs(fits(PAIRS, ([true] * 9, (C, D))), False)
        self.assertIs(fits(PAIRS, ([true] * 8 + [(C, D)], (C, D))), True)


if __name__ == "__main__":
    unittest.main()
