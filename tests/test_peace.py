"""Promises [71], and of [2] to [4] what they say of guards under which afters can be kept."""

import unittest

import oracle
from helpers import ask, code, random_code, random_rows

from answerskept.errors import Quarrel
from answerskept.forms import is_code, is_guard
from answerskept.guards import can, both, opposite, same_guard, within
from answerskept.keeping import kept, wanted
from answerskept.peace import kept_under, peace
from answerskept.sameness import do_same

ENDS = [("yes",), ("no",)]
START = code("tell a")

# A base, afters, and where these do not quarrel.
PEACE = [
    ("tell a", ["tell b"], "yes"), ("tell a", ["tell a", "tell a"], "yes"), ("tell a", ["tell b", "if a b tell a tell b"], "yes"),
    ("tell a", ["tell b", "tell c"], "if a b yes if a c yes if b c yes no"), ("tell a", ["tell b", "tell b"], "yes"),
    ("tell a", ["if a b tell c tell a", "if b c tell b tell a", "tell b", "tell c"], "if a b yes if a c yes if b c yes no"),
    ("tell a", ["if b c tell b tell a", "if b c tell d tell a"], "if b c if a b yes if a d yes if b d yes no yes"),
    ("tell f(a)", ["tell f(b)", "tell c"], "if f(a) f(b) yes if f(a) c yes if f(b) c yes no"),
    ("tell a", ["if a b tell c tell a", "if a b tell d tell a", "tell a"], "if a b if a c yes if a d yes if c d yes no yes"),
    ("if a b tell c tell d", ["tell c", "tell d"], "yes")]

# Afters that quarrel wherever no two of three things are alike, and elsewhere, too.
ODD = ("if a b tell f(a) if a c tell f(a) if b c tell f(a) tell a", ["tell b", "tell c"])


class PeaceTest(unittest.TestCase):
    def check(self, base, afters):
        guard = ask(self, peace, base, afters)
        self.assertTrue(is_guard(guard))
        for world in oracle.worlds_of(base, guard, *afters):
            right = oracle.wanted(base, afters, world) is not None
            self.assertIs(oracle.guard_holds(guard, world), right, (base, afters, world))
            self.assertIs(wanted(base, afters, world) is not None, right)
        return guard

    def check_under(self, base, afters, guard):
        """That what is kept under a guard, or the two that quarrel there, is as the oracle tells."""
        pairs = oracle.odd_pairs(base, afters, guard)
        if pairs:
            with self.assertRaises(Quarrel) as held:
                kept_under(base, afters, guard)
            self.assertEqual((held.exception.one, held.exception.other), pairs[0], (base, afters, guard))
            return None
        made = ask(self, kept_under, base, afters, guard)
        self.assertTrue(is_code(made))
        for world in oracle.worlds_of(base, made, guard, *afters):
            holding = oracle.guard_holds(guard, world)
            right = oracle.wanted(base, afters, world) if holding else oracle.answer(base, world)
            self.assertEqual(oracle.answer(made, world), right, (base, afters, guard, world))
        return made

    def test_the_example(self):
        afters = [code(text) for text in ("if a b tell c tell a", "if b c tell b tell a", "tell b", "tell c")]
        self.assertIs(same_guard(peace(START, afters), code("if a b yes if a c yes if b c yes no")), True)

    def test_peace(self):
        for base, afters, right in PEACE:
            base, afters = code(base), [code(after) for after in afters]
            guard = self.check(base, afters)
            self.assertIs(same_guard(guard, code(right)), True, (base, afters))
            made = self.check_under(base, afters, guard)
            self.assertIsNotNone(made)
            self.check_under(base, afters, opposite(guard))
            if right == "yes":
                self.assertIs(do_same(made, kept(base, afters)), True)

    def test_peace_everywhere_and_nowhere_under_a_guard(self):
        self.assertIs(same_guard(peace(START, [code("tell b")]), ("yes",)), True)
        base, afters = code("tell f(a)"), [code("tell b"), code("tell c")]
        guard = code("if f(a) b no if f(a) c no if b c no yes")
        self.assertIs(can(both(peace(base, afters), guard)), False)
        self.assertIs(same_guard(peace(base, afters), opposite(guard)), True)

    def test_peace_holds_where_all_is_alike(self):
        """In such a world no after changes the base: so no peace holds nowhere at all."""
        for base, afters in [("tell a", ["tell b", "tell c", "tell d", "tell e", "tell g"]), ODD]:
            guard = self.check(code(base), [code(after) for after in afters])
            self.assertIs(can(guard), True)
            self.assertIs(same_guard(guard, ("yes",)), False)

    def test_kept_under(self):
        b, c, other = code("tell b"), code("tell c"), code("if b c tell c tell a")
        for afters, guard, told in [
                ([b, c], "no", "tell a"), ([b, c], "if b c yes no", "if b c tell b tell a"), ([b, c], "yes", (0, 1)),
                ([b, c], "if a b yes no", "if a b tell c tell a"), ([b, c], "if b c no yes", (0, 1)), ([b, b], "yes", "tell b"),
                ([b], "if c d yes no", "if c d tell b tell a"), ([START], "if c d yes no", "tell a"), ([b, other], "yes", "tell b"),
                ([START, b, other, c], "yes", (1, 3)), ([START, b, other, c], "if b c yes no", "if b c tell b tell a"),
                ([c, other, b, c], "if a c no yes", (0, 2)), ([c, other, b, c], "if a c yes no", "if a c tell b tell a"),
                ([b, c], "if a a no yes", "tell a"), ([b, c], "if f(a) f(b) no yes", (0, 1)), ([b, c], "if a c if a b yes no no", "tell a")]:
            made = self.check_under(START, afters, code(guard))
            if isinstance(told, tuple):
                self.assertIsNone(made, (afters, guard))
                with self.assertRaises(Quarrel) as held:
                    kept_under(START, afters, code(guard))
                self.assertEqual((held.exception.one, held.exception.other), told, (afters, guard))
            else:
                self.assertIs(do_same(made, code(told)), True, (afters, guard))

    def test_least_pair_under_a_guard(self):
        """The least pair that quarrels somewhere may not be the least one that quarrels under the guard."""
        afters = [code("if c d tell b tell a"), code("if c d tell e tell a"), code("if c d tell a tell b"), code("if c d tell a tell e")]
        for guard, told in [("yes", (0, 1)), ("if c d yes no", (0, 1)), ("if c d no yes", (2, 3))]:
            with self.assertRaises(Quarrel) as held:
                kept_under(START, afters, code(guard))
            self.assertEqual((held.exception.one, held.exception.other), told)
            self.check_under(START, afters, code(guard))

    def test_at_random(self):
        found = {}
        for chance, pool, base, afters in random_rows(200):
            guard = self.check(base, afters)
            made = self.check_under(base, afters, guard)
            self.assertIsNotNone(made)
            for other in (random_code(chance, pool, 2, ENDS), ("yes",), ("no",)):
                told = self.check_under(base, afters, other)
                self.assertIs(told is not None, within(other, guard))
                found[told is None] = found.get(told is None, 0) + 1
        self.assertGreater(min(found.values()), 50)

    def test_what_was_asked_ahead_changes_nothing(self):
        rows = [(code(base), [code(after) for after in afters]) for base, afters, _ in PEACE]
        first = [repr([peace(*row), kept_under(*row, peace(*row))]) for row in rows]
        self.assertEqual([repr([peace(*row), kept_under(*row, peace(*row))]) for row in rows[::-1]], first[::-1])


if __name__ == "__main__":
    unittest.main()
