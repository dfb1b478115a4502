"""Promises [70], and of [2] to [4] what they say of bases, afters and what is wanted."""

import itertools
import unittest

import oracle
from helpers import any_values, ask, code, random_code, random_rows, twisted

from answerskept.errors import Quarrel
from answerskept.forms import is_code, is_world
from answerskept.keeping import is_losing_world, is_quarrel_world, kept, keeps, losing_world, quarrel_world, wanted
from answerskept.sameness import do_same

WORLD = {("a",): 1, ("b",): 1, ("c",): 4, ("f", 1): 2}
OTHER = {("a",): 1, ("b",): 2, ("c",): 3}
START, LEFT, RIGHT, NEAR = (code(text) for text in ("tell a", "tell b", "if b c tell b tell a", "if a b tell c tell a"))

# A base, afters, and a code that keeps them, or the two that quarrel.
KEPT = [
    ("tell a", ["tell b"], "tell b"), ("tell a", ["tell a"], "tell a"), ("tell a", ["if a b tell b tell a"], "tell a"),
    ("tell a", ["tell a", "tell b"], "tell b"), ("tell a", ["tell b", "tell a"], "tell b"), ("tell a", ["tell b", "tell b"], "tell b"),
    ("tell a", ["tell b", "tell c"], (0, 1)), ("tell a", ["tell a", "tell b", "tell c"], (1, 2)),
    ("tell a", ["tell b", "tell a", "tell b", "tell c"], (0, 3)), ("tell a", ["tell b", "if a b tell a tell b"], "tell b"),
    ("tell a", ["if a b tell c tell a", "if a b tell a tell c"], "tell c"),
    ("tell a", ["if b c tell b tell a", "if b c tell a tell c"], "if b c tell b tell c"),
    ("tell a", ["if b c tell b tell a", "if b c tell c tell a"], "if b c tell b tell a"),
    ("tell a", ["if b c tell b tell a", "if b d tell d tell a", "if c d tell c tell a"],
     "if b c tell b if b d tell b if c d tell c tell a"),
    ("tell a", ["if b c tell b tell a", "if b d tell d tell a"], "if b c tell b if b d tell b tell a"),
    ("tell a", ["if b c tell b tell a", "if c d tell d tell a", "if b e tell b tell a"], (1, 2)),
    ("if a b tell c tell d", ["tell c", "tell d"], "if a b tell d tell c"),
    ("if a b tell c tell d", ["if a b tell c tell a", "if a b tell a tell d"], "tell a"),
    ("tell f(a)", ["if a b tell f(b) tell c", "tell c"], "tell c"), ("tell f(a)", ["if a b tell f(b) tell c", "if a b tell a tell f(a)"],
                                                                   "if a b tell a tell c"),
    ("tell f(a)", ["if a b tell c tell f(a)", "if f(a) f(b) tell f(b) tell d"], "if a b tell c if f(a) f(b) tell f(a) tell d"),
    ("tell a", ["if a b tell c tell a", "if a c tell b tell a"], "if a b tell c if a c tell b tell a"),
    ("tell a", ["tell b", "tell c", "tell d"], (0, 1)), ("tell a", ["if a b tell b tell a", "tell c", "if a c tell a tell d"], (1, 2)),
    ("tell a", ["if b c tell c tell a", "if c b tell b tell a", "if b c tell b tell a", "if d d tell a tell c", "tell a"],
     "if b c tell b tell a")]

# Two afters, and worlds in which they quarrel, or do not.
QUARREL_WORLDS = [
    ({("b",): 1, ("c",): 2}, True), ({("a",): 3, ("b",): 1, ("c",): 2}, True), ({("b",): 1}, False), ({}, False),
    ({("b",): 1, ("c",): 1}, False), ({("b",): 2, ("c",): 1, ("z", 5): 7, ("q",): 0}, True), ({("a",): 1, ("b",): 1, ("c",): 2}, False),
    ({("b",): 10 ** 39, ("c",): 1}, True), ({("b",): 1, ("c",): True}, False), ({("b",): 1, ("c",): 2, ("d",): True}, False),
    ({("b",): 1, ("c",): 2, ("d",): -1}, False), ({("b",): 1, ("c",): 2, "d": 1}, False), ({("b",): 1, ("c",): 2, ("f", True): 1}, False),
    ([(("b",), 1), (("c",), 2)], False), ({("b",): 1, ("c",): "2"}, False), ({("b",): 1, ("c",): 2, (): 1}, False),
    ({("b",): 1, ("c",): 2, ("if",): 1}, False), ({("b",): 1, ("c",): -2}, False), ({("b",): 1, ("c",): 2, ("d", -1): 1}, False)]


class KeepingTest(unittest.TestCase):
    def test_the_example(self):
        afters = [NEAR, RIGHT, LEFT, code("tell c")]
        told = [wanted(START, afters[:2], WORLD), wanted(START, afters[2:], OTHER), quarrel_world(START, afters[:3])]
        self.assertEqual(repr(told), "[4, None, None]")
        self.assertIs(do_same(kept(START, afters[:2]), code("if a b tell c if b c tell b tell a")), True)

    def test_wanted(self):
        for base, afters, world, told in [
                ("tell a", ["tell b"], OTHER, 2), ("tell a", ["tell a"], OTHER, 1), ("tell a", ["tell b", "tell c"], OTHER, None),
                ("tell a", ["tell b", "tell c"], WORLD, 4), ("tell a", ["tell c", "tell b"], WORLD, 4), ("tell a", ["tell b"], WORLD, 1),
                ("tell a", ["tell x", "tell y"], OTHER, 0), ("tell x", ["tell y", "tell z"], OTHER, 0), ("tell a", ["tell x"], OTHER, 0),
                ("tell a", ["tell x", "tell b"], OTHER, None), ("tell x", ["tell a", "tell x", "tell a"], OTHER, 1),
                ("tell a", ["tell b", "tell b", "tell c"], OTHER, None), ("tell a", ["tell b", "tell a", "tell c", "tell b"], OTHER, None),
                ("tell a", ["tell b", "tell a", "tell b"], OTHER, 2), ("tell x", ["tell c", "tell x", "tell b"], OTHER, None),
                ("if a b tell c tell b", ["tell b", "tell c"], OTHER, 3), ("tell c", ["tell x", "tell y"], {("c",): 10 ** 39}, 0)]:
            row = code(base), [code(after) for after in afters], world
            self.assertEqual(ask(self, wanted, *row), told, row)
            self.assertEqual(oracle.wanted(*row), told, row)
            self.assertIs(ask(self, is_quarrel_world, *row), told is None)

    def check_world(self, world, right):
        self.assertTrue(is_world(world))
        self.assertEqual(list(world), sorted(world))
        self.assertTrue(right(world), world)

    def check(self, base, afters, *codes):
        """That all that is told of a base and afters is as the oracle tells, and goes together."""
        worlds = oracle.worlds_of(base, *afters)
        pairs = oracle.odd_pairs(base, afters)
        world = ask(self, quarrel_world, base, afters)
        self.assertEqual(world is not None, bool(pairs), (base, afters))
        made = None
        if pairs:
            self.check_world(world, lambda world: oracle.wanted(base, afters, world) is None)
            self.assertIs(ask(self, is_quarrel_world, base, afters, world), True)
            with self.assertRaises(Quarrel) as held:
                kept(base, afters)
            self.assertEqual((held.exception.one, held.exception.other), pairs[0])
        else:
            made = ask(self, kept, base, afters)
            self.assertTrue(is_code(made))
            for each in oracle.worlds_of(base, made, *afters):
                self.assertEqual(oracle.answer(made, each), oracle.wanted(base, afters, each), (base, afters))
            self.assertIs(keeps(base, afters, made), True)
        for each in worlds[:20]:
            self.assertEqual(wanted(base, afters, each), oracle.wanted(base, afters, each))
            self.assertIs(is_quarrel_world(base, afters, each), oracle.wanted(base, afters, each) is None)
        for each in (base,) + codes + tuple(afters[:2]):
            self.check_loss(base, afters, each, bool(pairs))
        return made

    def check_loss(self, base, afters, each, quarrel):
        worlds = oracle.worlds_of(base, each, *afters)
        lost = any(oracle.loses(base, afters, each, world) for world in worlds)
        world = ask(self, losing_world, base, afters, each)
        self.assertEqual(world is not None, lost, (base, afters, each))
        self.assertIs(ask(self, keeps, base, afters, each), not lost and not quarrel, (base, afters, each))
        if lost:
            self.check_world(world, lambda world: oracle.loses(base, afters, each, world))
            self.assertIs(ask(self, is_losing_world, base, afters, each, world), True)
        for other in worlds[:15]:
            self.assertIs(is_losing_world(base, afters, each, other), oracle.loses(base, afters, each, other))

    def test_kept(self):
        for base, afters, right in KEPT:
            row = code(base), [code(after) for after in afters]
            if isinstance(right, tuple):
                self.assertIsNone(self.check(*row))
                with self.assertRaises(Quarrel) as held:
                    kept(*row)
                self.assertEqual((held.exception.one, held.exception.other), right, (base, afters))
            else:
                made = self.check(*row, code(right))
                self.assertIs(do_same(made, code(right)), True, (base, afters))
                self.assertIs(keeps(*row, code(right)), True, (base, afters))

    def test_at_random(self):
        found = {True: 0, False: 0}
        for chance, pool, base, afters in random_rows(320):
            made = self.check(base, afters, random_code(chance, pool, 2))
            found[made is None] += 1
        self.assertGreater(min(found.values()), 40)

    def test_afters_in_any_order(self):
        for base, afters, right in KEPT:
            base, afters = code(base), [code(after) for after in afters]
            for order in itertools.islice(itertools.permutations(afters), 24):
                self.assertEqual(quarrel_world(base, list(order)) is None, isinstance(right, str))
                if isinstance(right, str):
                    self.assertIs(do_same(kept(base, list(order)), code(right)), True)

    def test_quarrels_in_some_worlds_only(self):
        base, afters = code("tell a"), [code("if b c tell b tell a"), code("if c d tell c tell d")]
        self.assertIsNone(self.check(base, afters))
        world = quarrel_world(base, afters)
        self.assertEqual(oracle.worth(("b",), world), oracle.worth(("c",), world))
        self.assertNotEqual(oracle.worth(("c",), world), oracle.worth(("d",), world))
        self.assertNotEqual(oracle.worth(("a",), world), oracle.worth(("d",), world))

    def test_three_of_which_one_is_idle(self):
        afters = [code("if b c tell b tell a"), code("if b a tell a tell a"), code("if b c tell a tell c")]
        for order in itertools.permutations(afters):
            made = self.check(START, list(order))
            self.assertIs(do_same(made, code("if b c tell b tell c")), True)

    def test_codes_that_lose_only_where_nothing_is_changed(self):
        base, afters = code("tell a"), [code("if b c tell b tell a")]
        loser = code("if b c tell b tell d")
        world = ask(self, losing_world, base, afters, loser)
        self.assertEqual(oracle.wanted(base, afters, world), oracle.answer(base, world))
        self.assertNotEqual(oracle.worth(("b",), world), oracle.worth(("c",), world))
        self.assertIs(keeps(base, afters, loser), False)
        self.assertIs(is_losing_world(base, afters, loser, {("d",): 1, ("b",): 2}), True)
        self.assertIs(is_losing_world(base, afters, loser, {("d",): 1}), False)
        self.assertIs(keeps(base, [base], loser), False)

    def test_a_code_loses_in_no_world_in_which_they_quarrel(self):
        base, afters = code("tell a"), [code("tell b"), code("tell c")]
        both = code("if a b tell c if a c tell b tell b")
        self.assertIsNone(ask(self, losing_world, base, afters, both))
        self.assertIs(ask(self, keeps, base, afters, both), False)
        self.assertIs(is_losing_world(base, afters, code("tell a"), {("b",): 1, ("c",): 2}), False)
        self.assertIs(is_losing_world(base, afters, code("tell a"), {("b",): 1, ("c",): 1}), True)
        self.assertIs(is_losing_world(base, afters, code("tell d"), {("d",): 1}), True)

    def test_worlds_with_more_than_is_asked(self):
        """A code, or an after, that asks for terms of its own."""
        self.check(code("tell a"), [code("if x y tell f(a) tell a")], code("if x y tell f(a) if z z tell a tell z"))
        self.check(code("tell a"), [code("tell a")], code("if f(f(a)) g(a) tell b tell a"))

    def test_quarrel_worlds(self):
        afters = [code("tell b"), code("tell c")]
        for world, told in QUARREL_WORLDS:
            self.assertIs(ask(self, is_quarrel_world, START, afters, world), told, world)
            self.assertIs(ask(self, is_quarrel_world, START, afters[::-1], world), told, world)
        for base, some in ((START, afters), (START, [LEFT, NEAR]), (START, [START])):
            for thing in any_values():
                self.assertIs(is_quarrel_world(base, some, thing), False)
                for each in ([thing], (thing,), {("b",): 1, ("c",): thing}, {("b",): thing, ("c",): 3}):
                    self.assertIs(is_quarrel_world(base, some, each), bool(
                        oracle.is_world(each) and oracle.wanted(base, some, each) is None))

    def test_losing_worlds(self):
        base, afters, loser = code("tell a"), [code("tell b")], code("tell c")
        for world, told in QUARREL_WORLDS:
            right = bool(oracle.is_world(world) and oracle.loses(base, afters, loser, world))
            self.assertIs(ask(self, is_losing_world, base, afters, loser, world), right, world)
            self.assertIs(right, told or world in ({("b",): 1}, {("a",): 1, ("b",): 1, ("c",): 2}), world)
        for thing in any_values():
            self.assertIs(is_losing_world(base, afters, code("tell a"), thing), False)
            for each in ([thing], (thing,), {("b",): 1, ("c",): thing}, {("b",): thing}):
                self.assertIs(is_losing_world(base, afters, loser, each), bool(
                    oracle.is_world(each) and oracle.loses(base, afters, loser, each)))

    def test_twisted_worlds(self):
        base, afters, loser = code("tell f(a)"), [code("if a b tell c tell f(a)"), code("tell f(c)")], code("tell f(a)")
        counts = {}
        for first in (quarrel_world(base, afters), losing_world(base, afters, loser), quarrel_world(START, [LEFT, RIGHT, NEAR, code("tell c")])):
            for thing in twisted(first):
                right = bool(oracle.is_world(thing) and oracle.wanted(base, afters, thing) is None)
                self.assertIs(is_quarrel_world(base, afters, thing), right, thing)
                lost = bool(oracle.is_world(thing) and oracle.loses(base, afters, loser, thing))
                self.assertIs(is_losing_world(base, afters, loser, thing), lost, thing)
                counts[right, lost] = counts.get((right, lost), 0) + 1
        self.assertEqual({*counts}, {(True, False), (False, True), (False, False)})
        self.assertGreater(min(counts.values()), 10)

    def test_what_was_asked_ahead_changes_nothing(self):
        rows = [(code(base), [code(after) for after in afters]) for base, afters, right in KEPT if isinstance(right, str)]
        first = [repr([kept(*row), losing_world(*row, START), quarrel_world(*row)]) for row in rows]
        self.assertEqual([repr([kept(*row), losing_world(*row, START), quarrel_world(*row)]) for row in rows[::-1]], first[::-1])

    def test_afters_may_be_changed_behind(self):
        afters = [code("if b c tell b tell a"), code("if b c tell a tell c")]
        made = kept(START, afters)
        afters.append(code("tell b"))
        afters.reverse()
        self.assertIs(do_same(made, code("if b c tell b tell c")), True)


if __name__ == "__main__":
    unittest.main()
