"""Promises [90] and [8], and of [2] to [4] what they say of claims."""

import itertools
import unittest

import oracle
from helpers import any_values, ask, claim, code, of_ways, random_claims, random_code, random_pools, random_rows, seen, twisted

from answerskept.claims import breaking_world, is_breaking_world, is_claim, keeps_claim, lost_claims, stands
from answerskept.errors import Quarrel
from answerskept.forms import is_world
from answerskept.guards import opposite
from answerskept.keeping import kept

START, LEFT, RIGHT, NEAR = (code(text) for text in ("tell a", "tell b", "if b c tell b tell a", "if a b tell c tell a"))
ALIKE_AB, ALIKE_BC = code("if a b yes no"), code("if b c yes no")
CLAIMS = [(ALIKE_AB, ("c",)), (ALIKE_BC, ("b",)), (opposite(ALIKE_AB), ("a",))]
ENDS = [("yes",), ("no",)]

# A code, a claim, and whether it is kept.
KEPT = [
    ("tell a", "yes a", True), ("tell a", "yes b", False), ("tell a", "no b", True), ("tell a", "if a a no yes b", True),
    ("tell a", "if a b yes no b", True), ("tell a", "if a b no yes b", False), ("tell a", "if a b if b c yes no no c", True),
    ("tell f(a)", "if a b yes no f(b)", True), ("tell f(a)", "if f(a) f(b) yes no f(b)", True), ("tell f(a)", "if f(a) f(b) no yes f(b)", False),
    ("if a b tell c tell a", "if a b yes no c", True), ("if a b tell c tell a", "if a b yes no a", False), ("if a b tell c tell a", "if a b no yes a", True),
    ("if a b tell c tell a", "if a c no yes c", False), ("if a b tell c tell a", "if b a yes no c", True), ("if a b tell a tell b", "yes b", True),
    # Claims that hold though no if is settled by the guard alone.
    ("if a b tell f(a) tell f(b)", "yes f(b)", True), ("if c d tell a tell b", "if a b yes no a", True),
    ("if a b tell c if b c tell c tell a", "if a c yes no c", True), ("if a b if b c tell a tell d tell c", "if a c yes no c", True),
    ("if a b if b c tell a tell d tell c", "if a c no yes d", False), ("if x y tell z tell f(z)", "if z f(z) yes no f(f(z))", True),
    ("tell a", "if a b no yes newer", False), ("tell a", "if f(f(f(a))) a yes no f(f(f(a)))", True), ("tell a", "if f(f(a)) a yes no f(a)", False),
]


class ClaimFormTest(unittest.TestCase):
    def test_right_ones(self):
        for _, text, _ in KEPT:
            self.assertIs(ask(self, is_claim, claim(text)), True, text)

    def test_wrong_ones(self):
        a, yes = ("a",), ("yes",)
        for thing in [(), (yes,), (a,), (yes, a, a), (a, yes), [yes, a], (yes, yes), (a, a), (yes, "a"), ("yes", a), (yes, ("tell", a)),
                      (("tell", a), a), (yes, ("if",)), (("if", a, a, yes), a), (("if", a, a, yes, a), a), (yes, [a]), (["yes"], a), (True, a),
                      (("met",), a), (yes, ()), (yes, None), None, "yes a", {yes: a}, ("if", a, a, yes, yes)]:
            self.assertIs(ask(self, is_claim, thing), False, thing)

    def test_any_values(self):
        for thing in any_values():
            for other in (thing, (thing,), (("yes",), thing), (thing, ("a",)), (thing, thing), [("yes",), thing]):
                self.assertIs(is_claim(other), oracle.is_claim(other), seen(other))

    def test_twisted_ones(self):
        counts = {True: 0, False: 0}
        for text in ("yes a", "no f(a,b)", "if a b yes no c", "if a b if f(a) c no yes yes f(f(a))"):
            for other in twisted(claim(text)):
                told = is_claim(other)
                self.assertIs(told, oracle.is_claim(other), seen(other))
                counts[told] += 1
        self.assertGreater(min(counts.values()), 20)

    def test_deep_ones(self):
        deep, term = ("yes",), ("a",)
        for _ in range(28):
            deep, term = ("if", ("a",), ("b",), deep, ("no",)), ("f", term)
        self.assertIs(is_claim((deep, term)), True)
        self.assertIs(is_claim((deep, ("f", term, [1]))), False)


class KeepingClaimsTest(unittest.TestCase):
    def check(self, each, one):
        """Whether a code keeps a claim, with a world in which it does not."""
        right = oracle.keeps_claim(each, one)
        self.assertIs(ask(self, keeps_claim, each, one), right, (each, one))
        world = ask(self, breaking_world, each, one)
        self.assertIs(world is None, right, (each, one))
        self.assertIs(ask(self, is_breaking_world, each, one, world), not right)
        if not right:
            self.assertTrue(is_world(world))
            self.assertEqual(list(world), sorted(world))
            self.assertTrue(oracle.breaks(each, one, world))
        return right

    def test_the_example(self):
        found = [[keeps_claim(one, each) for each in CLAIMS] for one in (START, NEAR, RIGHT, LEFT)]
        self.assertEqual(repr(found), "[[False, False, True], [True, False, True], [False, True, False], [False, True, False]]")

    def test_kinds(self):
        for text, other, told in KEPT:
            self.assertIs(self.check(code(text), claim(other)), told, (text, other))

    def test_claims_of_ways(self):
        """A code keeps that each of its ways tells its end, and not that it tells another term."""
        found = 0
        for chance, pool in random_pools(60):
            each = random_code(chance, pool, 3)
            for guard, end in of_ways(each):
                self.assertIs(self.check(each, (guard, end)), True)
                if not self.check(each, (guard, ("other",))):
                    found += 1
        self.assertGreater(found, 60)
        for guard, end in of_ways(NEAR):
            self.assertIs(self.check(NEAR, (guard, end)), True)
            self.assertIs(self.check(NEAR, (guard, ("d",))), False)

    def test_at_random(self):
        counts = {True: 0, False: 0}
        for chance, pool in random_pools(150):
            for one in random_claims(chance, pool, 3):
                counts[self.check(random_code(chance, pool, 2), one)] += 1
        self.assertGreater(min(counts.values()), 50)

    def test_guards_that_hold_nowhere_and_everywhere(self):
        for each in (START, LEFT, RIGHT, NEAR):
            for guard in (("no",), code("if a a no yes"), code("if a b if f(a) f(b) no yes no")):
                self.assertIs(self.check(each, (guard, ("c",))), True)
            for guard in (("yes",), code("if a a yes no"), code("if a b if f(a) f(b) yes no yes")):
                self.assertIs(self.check(each, (guard, ("c",))), False)

    def test_is_breaking_world_of_any_value(self):
        for thing in any_values():
            self.assertIs(is_breaking_world(START, claim("yes b"), thing), False, seen(thing))
        for world, told in [({}, False), ({("b",): 1}, True), ({("a",): 1}, True), ({("a",): 1, ("b",): 1}, False), ({("b",): True}, False),
                            ({("b",): 10 ** 39}, True), ({("b",): -1}, False), ({"b": 1}, False), ([(("b",), 1)], False), ({("b",): 1, ("if",): 1}, False)]:
            self.assertIs(ask(self, is_breaking_world, START, claim("yes b"), world), told, world)
        self.assertIs(is_breaking_world(START, claim("if b c yes no b"), {("b",): 1}), False)

    def test_is_breaking_world_of_twisted_worlds(self):
        each, one = code("if a b tell f(a) tell c"), claim("if a f(b) yes no a")
        counts = {True: 0, False: 0}
        for thing in twisted({**breaking_world(each, one), ("z",): 4}):
            right = bool(oracle.is_world(thing) and oracle.breaks(each, one, thing))
            self.assertIs(is_breaking_world(each, one, thing), right, seen(thing))
            counts[right] += 1
        self.assertGreater(min(counts.values()), 10)

    def test_what_was_asked_ahead_changes_nothing(self):
        rows = [(code(text), claim(other)) for text, other, _ in KEPT]
        first = [repr(breaking_world(*row)) for row in rows]
        self.assertEqual([repr(breaking_world(*row)) for row in rows[::-1]], first[::-1])


class StandsTest(unittest.TestCase):
    def check(self, base, one, guard):
        right = oracle.stands(base, one, guard)
        self.assertIs(ask(self, stands, base, one, guard), right, (base, one, guard))
        return right

    def test_the_example(self):
        self.assertEqual(repr([stands(NEAR, CLAIMS[2], ALIKE_AB), stands(NEAR, CLAIMS[1], ALIKE_AB)]), "[True, False]")

    def test_kinds(self):
        for base, text, guard, told in [
                ("tell a", "yes a", "no", True), ("tell a", "yes b", "no", False), ("tell a", "yes a", "yes", False), ("tell a", "no b", "yes", True),
                ("tell a", "if a a no yes b", "yes", True), ("tell a", "yes a", "if a a no yes", True), ("tell a", "yes a", "if a b yes no", False),
                ("tell a", "if a b yes no a", "if a b yes no", False), ("tell a", "if a b yes no b", "if a b no yes", True),
                ("tell a", "if a b yes no c", "if a b no yes", False), ("tell a", "if a b no yes a", "if a b yes no", True),
                ("tell a", "if a b no yes a", "if b a yes no", True), ("tell a", "if a b no yes a", "if f(a) f(b) yes no", False),
                ("tell a", "if f(a) f(b) no yes a", "if a b yes no", True), ("tell a", "if a b if b c yes no no a", "if a c no yes", True),
                ("tell a", "if a b if b c yes no no a", "if a c yes no", False), ("tell a", "if a b yes no a", "if c d yes no", False),
                ("if a b tell c tell a", "if a b yes no c", "if a b no if a c yes no", True),
                # Where the guard and the claim speak, not even what all terms there are alike to can be promised.
                ("tell a", "yes a", "if a b if b c yes no no", False)]:
            self.assertIs(self.check(code(base), claim(text), code(guard)), told, (base, text, guard))

    def test_at_random(self):
        counts = {True: 0, False: 0}
        for chance, pool in random_pools(250, 4):
            base = random_code(chance, pool, 1)
            one = chance.choice(random_claims(chance, pool, 1) + of_ways(base) * 2)
            guards = [random_code(chance, pool, 2, ENDS), one[0], opposite(one[0]), ("no",), ("yes",)]
            for guard in guards:
                counts[self.check(base, one, guard)] += 1
        self.assertGreater(min(counts.values()), 100)

    def test_what_stands_is_kept_by_what_is_changed_there(self):
        found = 0
        for chance, pool in random_pools(150):
            base, guard = random_code(chance, pool, 1), random_code(chance, pool, 2, ENDS)
            for one in of_ways(base):
                if stands(base, one, guard):
                    new = oracle.at_ends(guard, random_code(chance, pool, 2), base)
                    self.assertIs(keeps_claim(new, one), True)
                    found += 1
        self.assertGreater(found, 10)


class LostTest(unittest.TestCase):
    def check(self, base, afters, each, claims):
        right = oracle.lost_claims(base, afters, each, claims)
        self.assertEqual(ask(self, lost_claims, base, afters, each, claims), right, (base, afters, each, claims))
        return right

    def test_the_example(self):
        self.assertEqual(repr(lost_claims(NEAR, [NEAR], RIGHT, CLAIMS)), "[0, 2]")

    def test_kinds(self):
        for base, afters, each, told in [
                (START, [START], LEFT, [2]), (START, [LEFT], LEFT, []), (START, [START], START, []), (NEAR, [NEAR], START, [0]),
                (NEAR, [START], LEFT, [2]), (RIGHT, [LEFT], NEAR, [1]), (LEFT, [RIGHT, LEFT, RIGHT], START, [1]), (LEFT, [RIGHT, START], NEAR, []),
                (NEAR, [NEAR, NEAR, START], RIGHT, [2])]:
            self.assertEqual(self.check(base, afters, each, CLAIMS), told, (base, afters, each))
        self.assertEqual(self.check(START, [LEFT], NEAR, []), [])
        self.assertEqual(self.check(NEAR, [NEAR], RIGHT, CLAIMS * 2), [0, 2, 3, 5])

    def test_at_random(self):
        found = 0
        for chance, pool, base, afters in random_rows(100, 4):
            claims = random_claims(chance, pool, 3) + of_ways(base)[:2] + of_ways(afters[0])[:1]
            found += len(self.check(base, afters, random_code(chance, pool, 2), claims))
        self.assertGreater(found, 20)

    def test_what_is_kept_loses_no_claim(self):
        """Guarantee [8]: a claim that the base and all afters keep is kept by each code that keeps the afters."""
        found = 0
        for chance, pool, base, afters in random_rows(250):
            try:
                made = kept(base, afters)
            except Quarrel:
                continue
            claims = random_claims(chance, pool, 6) + of_ways(base) + of_ways(afters[0])
            self.assertEqual(lost_claims(base, afters, made, claims), [])
            both = [one for one in claims if all(keeps_claim(each, one) for each in [base, *afters])]
            self.assertTrue(all(keeps_claim(made, one) for one in both))
            found += len([one for one in both if one[0] != ("no",)])
        self.assertGreater(found, 100)

    def test_all_stays_as_it_was(self):
        claims, afters = list(CLAIMS), [NEAR]
        lost_claims(NEAR, afters, RIGHT, claims)
        self.assertEqual((claims, afters), (CLAIMS, [NEAR]))
        first = [lost_claims(*row, CLAIMS) for row in itertools.product([NEAR], [[NEAR], [START]], [START, LEFT, RIGHT])]
        again = [lost_claims(*row, CLAIMS) for row in list(itertools.product([NEAR], [[NEAR], [START]], [START, LEFT, RIGHT]))[::-1]]
        self.assertEqual(first, again[::-1])


if __name__ == "__main__":
    unittest.main()
