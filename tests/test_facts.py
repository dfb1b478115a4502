"""Promises [31], and of [2] to [4] what they say of facts."""

import itertools
import unittest

import oracle
from helpers import ask, chances, facts, random_facts, random_terms, term, terms

from answerskept.facts import can_hold, follows, least_grounds, world_for
from answerskept.forms import is_world
from answerskept.worlds import all_hold

SOME = facts("a=b a/c f(a)=c")


def fact(text):
    return facts(text)[0]


def small_pools():
    """Closed lists of at most six terms, with a random.Random for each."""
    for seed in range(120):
        chance = chances(seed)
        pool = oracle.closed(random_terms(chance, 5, works="f" if seed % 2 else "fg"))
        if len(pool) <= 6:
            yield chance, pool


class FactsTest(unittest.TestCase):
    def test_the_example(self):
        told = [can_hold(SOME), follows(SOME, fact("f(b)=c")), follows(SOME, fact("b/c")),
                can_hold(SOME + facts("f(a)/f(b)"))]
        self.assertEqual(repr(told), "[True, True, True, False]")
        told = [least_grounds(SOME, fact("f(b)=c")), least_grounds(SOME, fact("b/c")), least_grounds(SOME, fact("a=a"))]
        self.assertEqual(repr(told), "[[(0, 2)], [(0, 1)], [()]]")

    def test_can_hold(self):
        for text, told in [
                ("", True), ("a=a", True), ("a/a", False), ("a/b", True), ("a=b a/b", False), ("a=b b/a", False),
                ("a=b b=c c/a", False), ("a=b b=c c/d", True), ("a=b f(a)/f(b)", False), ("f(a)=f(b) a/b", True),
                ("a=b f(a)/f(b,b)", True), ("a=b f(a,a)/f(b,b)", False), ("a=b f(a,c)/f(b,d)", True),
                ("a=f(a) a/f(f(f(a)))", False), ("f(f(f(a)))=a f(f(f(f(f(a)))))=a f(a)/a", False),
                ("f(f(a))=a f(a)/a", True), ("a=a(a) a/a(a(a))", False), ("a=b a(a)/a(b)", False), ("a=f f(f)/f(a)", False),
                ("a/b b/c a/c", True), ("f(a)/f(b) a=c c=b", False), ("g(a,b)=c g(b,a)=d a=b c/d", False)]:
            self.assertIs(ask(self, can_hold, facts(text)), told, text)
            self.check_world(facts(text), told)

    def check_world(self, some, can):
        world = ask(self, world_for, some)
        if not can:
            self.assertIsNone(world)
            return
        self.assertTrue(is_world(world))
        self.assertEqual(list(world), sorted(world))
        self.assertTrue(all_hold(some, world), (some, world))

    def test_follows(self):
        for text, one, told in [
                ("", "a=a", True), ("", "a=b", False), ("", "a/b", False), ("", "a/a", False), ("a=b", "b=a", True),
                ("a/b", "b/a", True), ("a/b", "a=b", False), ("a=b", "f(b)=f(a)", True), ("f(a)/f(b)", "a/b", True),
                ("f(a)=f(b)", "a=b", False), ("a=b", "f(a)=f(b,b)", False), ("a=b b=c", "f(a,c)=f(c,b)", True),
                ("a/a", "a=b", True), ("a/a", "a/b", True), ("a=b a/b", "x=y", True), ("a=b a/b", "x/y", True),
                ("a=b a/b", "x/x", True), ("f(a)/f(b) a=c", "c/b", True), ("a=b", "x=x", True), ("a=b", "x/x", False),
                ("f(f(f(a)))=a f(f(f(f(f(a)))))=a", "f(a)=a", True), ("f(a)/b a=c", "f(c)=b", False),
                ("f(a)/b a=c", "f(c)/b", True), ("a=b c/d", "c/d", True), ("a/f(a)", "f(a)/f(f(a))", False)]:
            self.assertIs(ask(self, follows, facts(text), fact(one)), told, (text, one))

    def test_least_grounds(self):
        for text, one, told in [
                ("", "a=a", [()]), ("", "a=b", []), ("a=b", "a=b", [(0,)]), ("a=b b=a", "a=b", [(0,), (1,)]),
                ("a=b b=c a=c", "a=c", [(0, 1), (2,)]), ("a=b b=c a=c", "c=c", [()]), ("a=b a=b", "b=c", []),
                ("a/a a=b", "a=b", [(0,), (1,)]), ("a=b a/b", "x=y", [(0, 1)]), ("a=b a/b c/c", "x/y", [(0, 1), (2,)]),
                ("a=b c=d a=c b=d", "a=d", [(0, 3), (1, 2)]), ("f(a)/f(b)", "a/b", [(0,)]),
                ("a=b b=c c=d d=e e=g a=g", "a=g", [(0, 1, 2, 3, 4), (5,)]),
                ("x=y a=b b/c", "a/c", [(1, 2)]), ("a=b b/c a=c", "a/c", [(0, 1)])]:
            self.assertEqual(ask(self, least_grounds, facts(text), fact(one)), told, (text, one))

    def test_random_facts(self):
        for chance, pool in small_pools():
            for many in range(5):
                some = random_facts(chance, pool, many)
                self.assertIs(ask(self, can_hold, some), oracle.can_hold(some), some)
                self.check_world(some, oracle.can_hold(some))
                for one in random_facts(chance, pool, 3):
                    self.assertIs(ask(self, follows, some, one), oracle.follows(some, one), (some, one))

    def test_random_grounds(self):
        found = 0
        for chance, pool in itertools.islice(small_pools(), 40):
            some, one = random_facts(chance, pool, 4), random_facts(chance, pool, 1)[0]
            told = ask(self, least_grounds, some, one)
            self.assertEqual(told, oracle.least(4, lambda lot: oracle.follows([some[at] for at in lot], one)), (some, one))
            found += len(told)
        self.assertGreater(found, 20)

    def test_truths_of_worlds_by_counting(self):
        """With [2] alone: facts of things and one work, in all worlds over three worths."""
        keys = [("a",), ("b",), ("c",), ("f", 0), ("f", 1), ("f", 2)]
        worlds = [dict(zip(keys, row)) for row in itertools.product(range(3), repeat=6)]
        pool = terms("a b c f(a) f(b)")
        for seed in range(25):
            some = random_facts(chances(seed), pool, 3)
            fitting = [world for world in worlds if all_hold(some, world)]
            if fitting:
                self.assertIs(can_hold(some), True, some)
            for one, other in itertools.combinations(pool, 2):
                for word in ("alike", "unlike"):
                    if follows(some, (word, one, other)):
                        self.assertTrue(all(all_hold([(word, one, other)], world) for world in fitting))

    def test_at_the_bounds(self):
        some = facts("f(f(f(f(f(f(a))))))=f(a) f(f(f(f(f(a)))))=f(f(a)) f(a)/f(f(f(a))) f(f(f(a)))=f(f(f(f(f(a))))) a=a a/f(a)")
        told = [ask(self, can_hold, some), ask(self, world_for, some), ask(self, least_grounds, some, fact("a=b"))]
        self.assertEqual(told[0], oracle.can_hold(some))
        self.assertEqual(told[1] is not None, told[0])
        rows = facts(" ".join(f"{one}={other}" for one, other in zip("abcdeg", "bcdegh")))
        self.assertEqual(ask(self, least_grounds, rows, fact("a=h")), [(0, 1, 2, 3, 4, 5)])
        self.assertEqual(ask(self, least_grounds, rows, fact("h=a")), [(0, 1, 2, 3, 4, 5)])
        self.assertEqual(ask(self, least_grounds, rows, fact("b=e")), [(1, 2, 3)])

    def test_beyond_the_bounds(self):
        names = "abcdefghijklmnopqrst"
        rows = [("alike", (one,), (other,)) for one, other in zip(names, names[1:])]
        self.assertIs(ask(self, follows, rows, fact("w(a,t)=w(t,a)")), True)
        self.assertIs(ask(self, can_hold, rows + facts("w(a,t)/w(t,a)")), False)
        self.assertIs(ask(self, can_hold, rows + facts("w(a,t)/v(t,a)")), True)
        self.check_world(rows + facts("w(a,t)/v(t,a)"), True)
        self.assertIs(follows([("alike", term("a"), term("b"))], ("alike", term("b"), term("a"))), True)


if __name__ == "__main__":
    unittest.main()
