"""Promises [60], and of [2] to [4] what they say of guards."""

import itertools
import unittest

import oracle
from helpers import ask, chances, code, random_code, random_terms, spoil, terms

from answerskept.codes import answer, asked, depth
from answerskept.errors import TooMany
from answerskept.forms import is_guard, is_world
from answerskept.guards import (both, can, either, fewest_tests, guard_holds, guard_world, opposite, same_guard, shallow,
                                within)

ENDS = [("yes",), ("no",)]
YES, NO = ENDS

# Guards, and whether they hold everywhere (True), nowhere (False), or somewhere only (None).
KINDS = [
    ("yes", True), ("no", False), ("if a b yes no", None), ("if a b no yes", None), ("if a b yes yes", True), ("if a b no no", False),
    ("if a a yes no", True), ("if a a no yes", False), ("if f(a) f(a) no yes", False),
    ("if a b if b a yes no no", None), ("if a b if b a no yes no", False), ("if a b if f(a) f(b) yes no yes", True),
    ("if a b if f(a) f(b) no yes no", False), ("if f(a) f(b) no if a b yes no", False), ("if f(a) f(b) yes if a b no yes", True),
    ("if f(a) f(b) no if a b no yes", None), ("if a b if b c if a c no yes no no", False), ("if a b if b c if a c yes no yes yes", True),
    ("if a b if c d if g(a,c) g(b,d) yes no yes yes", True), ("if a b if c d if g(a,c) g(d,b) no yes no no", None),
    ("if a f(a) if f(a) f(f(a)) no yes no", False), ("if f(f(a)) a if a f(a) yes no no", None),
    ("if a b no if a c no if b c no yes", None), ("if a b yes if a c yes if b c yes no", None), ("if a a(a) yes no", None)]


def guards_of(seed, many=4, most=5):
    """A few guards over a few terms."""
    chance = chances(seed)
    pool = oracle.closed(random_terms(chance, 4))[:most]
    pool = [each for each in pool if all(part in pool for part in oracle.subterms(each))]
    return [random_code(chance, pool, 4, ENDS) for _ in range(many)]


class GuardsTest(unittest.TestCase):
    def check_guard(self, made, right, *others):
        """That a guard holds in just the worlds in which right tells so of the holding of others."""
        self.assertTrue(is_guard(made), made)
        pool = [each for other in others for each in oracle.code_terms(other)] + oracle.code_terms(made)
        for world in oracle.worlds(pool):
            self.assertIs(oracle.guard_holds(made, world), right(*[oracle.guard_holds(other, world) for other in others]),
                          (made, others, world))

    def test_the_example(self):
        alike_bc = code("if b c yes no")
        self.assertEqual([can(both(alike_bc, opposite(alike_bc))), guard_holds(alike_bc, {})], [False, True])

    def test_guard_holds(self):
        world = {("a",): 1, ("b",): 1, ("c",): 4, ("f", 1): 2}
        for text, told in [
                ("yes", True), ("no", False), ("if a b yes no", True), ("if a b no yes", False), ("if a c yes no", False),
                ("if a c no yes", True), ("if f(a) f(b) yes no", True), ("if f(a) f(c) yes no", False), ("if x y yes no", True),
                ("if x a no if b a no yes", False), ("if x a no if b a yes no", True), ("if a b if a c no if c c yes no no", True)]:
            self.assertIs(ask(self, guard_holds, code(text), world), told, text)
        self.assertIs(guard_holds(code("if a b yes no"), {}), True)
        self.assertIs(guard_holds(code("if a b yes no"), {("a",): 10 ** 39}), False)

    def test_guard_holds_in_random_worlds(self):
        for seed in range(80):
            for guard in guards_of(seed):
                for world in oracle.worlds_of(guard)[:20]:
                    self.assertIs(ask(self, guard_holds, guard, world), oracle.guard_holds(guard, world))

    def test_kinds(self):
        for text, kind in KINDS:
            guard = code(text)
            self.assertIs(ask(self, can, guard), kind is not False, text)
            self.assertIs(can(opposite(guard)), kind is not True, text)
            self.assertIs(ask(self, same_guard, guard, YES), kind is True, text)
            self.assertIs(same_guard(guard, NO), kind is False, text)
            self.assertIs(ask(self, within, guard, NO), kind is False, text)
            self.assertIs(within(YES, guard), kind is True, text)
            self.assertIs(within(guard, YES), True)
            self.assertIs(within(NO, guard), True)
            self.check_world(guard, kind is not False)
            self.check_guard(guard, lambda told: told if kind is None else kind, guard)

    def check_world(self, guard, is_there):
        world = ask(self, guard_world, guard)
        self.assertEqual(world is not None, is_there, guard)
        if is_there:
            self.assertTrue(is_world(world))
            self.assertEqual(list(world), sorted(world))
            self.assertIs(oracle.guard_holds(guard, world), True, guard)

    def test_guards_made_of_kinds(self):
        for (one, _), (other, _) in itertools.product(KINDS[:16], repeat=2):
            self.check_two(code(one), code(other))

    def test_guards_made_of_random_ones(self):
        for seed in range(60):
            for one, other in itertools.combinations(guards_of(seed), 2):
                self.check_two(one, other)

    def check_two(self, one, other):
        self.check_guard(ask(self, both, one, other), lambda first, second: first and second, one, other)
        self.check_guard(ask(self, either, one, other), lambda first, second: first or second, one, other)
        self.check_guard(ask(self, opposite, one), lambda first: not first, one)

    def test_same_and_within(self):
        found = {True: 0, False: 0}
        for seed in range(150):
            guards = guards_of(seed) + [YES, NO]
            guards += [opposite(guards[0]), both(guards[0], guards[1]), either(guards[0], guards[1])]
            for one, other in itertools.product(guards, repeat=2):
                worlds = oracle.worlds_of(one, other)
                told = [(oracle.guard_holds(one, world), oracle.guard_holds(other, world)) for world in worlds]
                same, inside = all(first == second for first, second in told), all(second for first, second in told if first)
                self.assertIs(same_guard(one, other), same, (one, other))
                self.assertIs(within(one, other), inside, (one, other))
                found[same] += 1
        self.assertGreater(min(found.values()), 100)

    def test_same_guard_in_other_words(self):
        for one, other, told in [
                ("if a b yes no", "if b a yes no", True), ("if a b yes no", "if a b no yes", False), ("if a b yes no", "if a c yes no", False),
                ("if a b if b c yes no no", "if b c if a c yes no no", True), ("if a b if b c yes no no", "if a b if a c yes no no", True),
                ("if a b yes if b c yes no", "if b c yes if a b yes no", True), ("if f(a) f(b) yes no", "if a b yes if f(b) f(a) yes no", True),
                ("if f(a) f(b) yes no", "if a b yes no", False), ("if a b if c d yes no no", "if c d if a b yes no no", True)]:
            self.assertIs(ask(self, same_guard, code(one), code(other)), told, (one, other))
            self.assertIs(ask(self, same_guard, code(other), code(one)), told, (one, other))

    def test_within_is_one_way(self):
        for one, other, there, back in [
                ("if a b if b c yes no no", "if a c yes no", True, False), ("if a b yes no", "if f(a) f(b) yes no", True, False),
                ("if a b yes no", "if a c yes no", False, False), ("if a b yes no", "if b a yes no", True, True),
                ("if a b no if a c no yes", "if a b no yes", True, False), ("if f(a) f(b) no yes", "if a b no yes", True, False),
                ("if a b if a c no yes no", "if b c no yes", True, False)]:
            self.assertIs(ask(self, within, code(one), code(other)), there, (one, other))
            self.assertIs(ask(self, within, code(other), code(one)), back, (one, other))

    def test_worlds_of_random_guards(self):
        for seed in range(100):
            for guard in guards_of(seed):
                there = any(oracle.guard_holds(guard, world) for world in oracle.worlds_of(guard))
                self.check_world(guard, there)
                self.assertIs(ask(self, can, guard), there)


class FewestTest(unittest.TestCase):
    def check(self, guard, right):
        told, made = ask(self, fewest_tests, guard), ask(self, shallow, guard)
        self.assertEqual(told, right, guard)
        self.assertIs(type(told), int)
        self.assertTrue(is_guard(made))
        self.assertEqual(depth(made), right, guard)
        self.assertLessEqual({*oracle.code_terms(made)}, {*asked([guard])})
        for world in oracle.worlds_of(guard):
            self.assertIs(oracle.guard_holds(made, world), oracle.guard_holds(guard, world), (guard, made))

    def test_examples(self):
        for text, told in [
                ("yes", 0), ("no", 0), ("if a a yes no", 0), ("if a b yes yes", 0), ("if a b yes no", 1), ("if a b no yes", 1),
                ("if a b if b a yes no no", 1), ("if a b if b c yes no no", 2), ("if a b if b c if a c yes no no no", 2),
                ("if a b if c c yes no no", 1), ("if a b yes if b c yes if a c yes no", 3), ("if f(a) f(b) yes if a b yes no", 1),
                ("if a b if f(a) f(b) yes no no", 1), ("if a b if a c yes no if a c no yes", 2), ("if a b if c d yes no no", 2),
                ("if a b if a c no yes if a c yes no", 2), ("if c d if a b yes no if a b no yes", 2), ("if a b no if b c yes if a c yes no", 2),
                ("if a b no if c d no yes", 2), ("if a b if f(a) f(b) no yes no", 0), ("if a b if a b yes no if c c no yes", 1)]:
            self.check(code(text), told)
            self.assertEqual(oracle.fewest_tests(code(text)), told)

    def test_all_asked_terms_may_stand(self):
        """A test of terms that stand in no if as they are, or only in one that tells nothing."""
        guard = code("if a b if f(a) c yes no if f(a) c yes no")
        self.check(guard, 1)
        guard = code("if c c if a b if b d yes no no no")
        self.check(guard, 2)
        # Here a and b are subterms of those that are compared, and nothing else.
        guard = code("if f(a) f(b) yes no")
        self.check(guard, 1)

    def test_idle_ifs_give_terms(self):
        """What is told by x alone stands in an if that settles nothing: x may be compared all the same."""
        guard = code("if x x if a b if b x yes no no no")
        self.check(guard, 2)
        self.check(code("if a b if b c if c d yes no no if a c if c d no no no"), 3)

    def test_random_guards(self):
        found = {}
        for seed in range(70):
            for guard in guards_of(seed):
                right = oracle.fewest_tests(guard)
                self.check(guard, right)
                found[right] = found.get(right, 0) + 1
        self.assertTrue(all(found[many] > 5 for many in (0, 1, 2, 3)), found)

    def test_five_asked_terms(self):
        deepest = 0
        for seed, text in enumerate(("a b c d e", "a b c f(a) f(b)", "a f(a) f(f(a)) b f(b)", "a b c d g(a,b)")):
            chance = chances(seed)
            for _ in range(2):
                guard = code("if a a yes no")
                while len(asked([guard])) < 5 or oracle.fewest_tests(guard) == 0:
                    guard = random_code(chance, terms(text), 5, ENDS)
                right = oracle.fewest_tests(guard)
                self.check(guard, right)
                deepest = max(deepest, right)
        self.assertGreater(deepest, 3)

    def test_too_many(self):
        for text in ("if a b if c d if e g yes no no no", "if f(f(f(f(f(a))))) a yes no", "if a b yes if c d no if e g yes no",
                     "if a a if b b if c c if d d if e e if g g yes no no no no no no", "if g(a,b) g(c,d) yes no",
                     "if a b if c d if e g yes yes yes yes"):
            for call in (fewest_tests, shallow):
                with self.assertRaises(TooMany) as held:
                    call(code(text))
                self.assertEqual(held.exception.limit, 5, text)
        for text in ("if a b if c d if e e yes no no no", "if f(f(f(f(a)))) a yes no", "if g(a,b) g(b,a) yes if c c yes no"):
            self.assertLess(fewest_tests(code(text)), 4)
            self.assertEqual(depth(shallow(code(text))), fewest_tests(code(text)))

    def test_more_terms_are_no_limit_elsewhere(self):
        guard = code("if a b if c d if e g if h i yes no no no no")
        self.assertIs(can(guard), True)
        self.assertIs(same_guard(guard, code("if h i if e g if c d if a b yes no no no no")), True)
        self.assertIs(guard_holds(guard, {}), True)
        self.assertIs(within(guard, opposite(guard)), False)

    def test_what_was_asked_ahead_changes_nothing(self):
        guards = [code(text) for text, _ in KINDS] + guards_of(1)
        first = [(shallow(guard), opposite(guard), guard_world(guard)) for guard in guards if len(asked([guard])) < 6]
        second = [(shallow(guard), opposite(guard), guard_world(guard)) for guard in guards[::-1] if len(asked([guard])) < 6]
        self.assertEqual(repr(first), repr(second[::-1]))

    def test_worlds_are_new(self):
        guard = code("if a b no yes")
        first = guard_world(guard)
        spoil(first)
        self.assertEqual(answer(("tell", ("a",)), first), 0)
        self.assertIs(guard_holds(guard, guard_world(guard)), True)


if __name__ == "__main__":
    unittest.main()
