"""Promises [23], and of [2] and [3] what they say of worlds."""

import unittest

import oracle
from helpers import ask, chain, chances, facts, random_facts, random_terms, term, terms

from answerskept.worlds import alike, all_hold, thinned, worth

WORLD = {("a",): 1, ("b",): 1, ("c",): 4, ("f", 1): 2}
LARGE = 10 ** 39


def random_world(chance, most=2):
    """A world with keys missing, and with keys that nobody asks for."""
    keys = [("a",), ("b",), ("c",), ("z",), ("f",)]
    keys += [(name, number) for name in "fg" for number in range(most + 1)]
    keys += [(name, one, two) for name in "fg" for one in range(most + 1) for two in range(most + 1)]
    chance.shuffle(keys)
    return {key: chance.randint(0, most) for key in keys if chance.random() < 0.6}


class WorldsTest(unittest.TestCase):
    def test_the_example(self):
        a, c, fa, fb = terms("a c f(a) f(b)")
        told = [worth(fa, WORLD), worth(("g", fa, c), WORLD), all_hold([("alike", fa, fb), ("unlike", a, fa)], WORLD)]
        self.assertEqual(repr(told), "[2, 0, True]")
        self.assertEqual(repr(thinned(WORLD, [fa])), "{('a',): 1, ('f', 1): 2}")

    def test_worth(self):
        world = {("a",): 1, ("f", 1): 2, ("f", 2): 1, ("f", 1, 2): 5, ("f", 2, 1): 6, ("f", 0): 7, ("f",): 9, ("a", 0): 3}
        for text, told in [("a", 1), ("b", 0), ("f(a)", 2), ("f(f(a))", 1), ("f(f(f(a)))", 2), ("f(a,f(a))", 5),
                           ("f(f(a),a)", 6), ("f(a,a)", 0), ("f(b)", 7), ("f", 9), ("a(b)", 3), ("g(a)", 0),
                           ("a(a)", 0), ("f(g(a))", 7), ("f(f)", 0)]:
            self.assertEqual(ask(self, worth, term(text), world), told, text)

    def test_worth_is_nothing_in_the_empty_world(self):
        for each in terms("a f(a) f(a,b) f(g(a),c)") + [chain(100)]:
            self.assertEqual(ask(self, worth, each, {}), 0)

    def test_a_key_with_nothing_is_like_no_key(self):
        self.assertEqual(worth(term("f(a)"), {("a",): 0, ("f", 0): 3}), 3)
        self.assertEqual(worth(term("f(a)"), {("f", 0): 3}), 3)

    def test_large_worths(self):
        world = {("a",): LARGE, ("f", LARGE): LARGE - 1, ("f", LARGE - 1): LARGE}
        self.assertEqual(ask(self, worth, term("f(a)"), world), LARGE - 1)
        self.assertEqual(ask(self, worth, term("f(f(a))"), world), LARGE)
        self.assertIs(ask(self, alike, term("f(f(a))"), term("a"), world), True)

    def test_worth_of_deep_terms(self):
        steps = {("a",): 0, **{("f", number): number + 1 for number in range(300)}}
        for names in (100, 150, 300):
            self.assertEqual(ask(self, worth, chain(names), steps), names - 1)
            told = ask(self, thinned, steps, [chain(names)])
            self.assertEqual(list(told), [("a",)] + [("f", number) for number in range(names - 1)])

    def test_alike(self):
        for one, other, told in [("a", "b", True), ("a", "c", False), ("f(a)", "f(b)", True), ("x", "y", True),
                                 ("f(a)", "a", False), ("g(a)", "x", True), ("c", "f(c)", False), ("a", "a", True)]:
            self.assertIs(ask(self, alike, term(one), term(other), WORLD), told, (one, other))
            self.assertIs(alike(term(other), term(one), WORLD), told, (one, other))

    def test_all_hold(self):
        for text, told in [("", True), ("a=b", True), ("a/b", False), ("a=c", False), ("a/c", True), ("a=b a/c", True),
                           ("a=b a=c", False), ("a/b a/c", False), ("a/a", False), ("f(a)=f(b) c/f(a) x=y", True)]:
            self.assertIs(ask(self, all_hold, facts(text), WORLD), told, text)

    def test_thinned(self):
        world = {("z",): 1, ("f", 2): 1, ("f", 1): 2, ("f", 1, 2): 5, ("a",): 1, ("b",): 0, ("f",): 9, ("a", 1): 3}
        for text, told in [
                ("", {}), ("a", {("a",): 1}), ("c", {}), ("f(a)", {("a",): 1, ("f", 1): 2}), ("b", {("b",): 0}),
                ("f(c)", {}), ("f(f(a))", {("a",): 1, ("f", 1): 2, ("f", 2): 1}), ("f", {("f",): 9}),
                ("f(z) f(a)", {("a",): 1, ("f", 1): 2, ("z",): 1}), ("a(z) b", {("a", 1): 3, ("b",): 0, ("z",): 1}),
                ("f(a,f(a))", {("a",): 1, ("f", 1): 2, ("f", 1, 2): 5}), ("g(a)", {("a",): 1})]:
            found = ask(self, thinned, world, terms(text))
            self.assertEqual(found, told, text)
            self.assertEqual(list(found), sorted(found), text)

    def test_thinned_is_new(self):
        world = {("a",): 1}
        told = thinned(world, [("a",)])
        self.assertEqual(told, world)
        self.assertIsNot(told, world)

    def test_random_worlds(self):
        for seed in range(150):
            chance = chances(seed)
            pool, world = random_terms(chance, 7), random_world(chance)
            for each in pool:
                self.assertEqual(worth(each, world), oracle.worth(each, world))
            some = random_facts(chance, pool, 3)
            self.assertIs(ask(self, all_hold, some, world), all(oracle.holds(fact, world) for fact in some))
            self.check_thinned(world, chance.sample(pool, min(3, len(pool))))

    def check_thinned(self, world, some):
        told = ask(self, thinned, world, some)
        asked = {(part[0],) + tuple(oracle.worth(each, world) for each in part[1:]) for part in oracle.closed(some)}
        self.assertEqual(told, {key: world[key] for key in world if key in asked})
        self.assertEqual(list(told), sorted(told))
        for part in oracle.closed(some):
            self.assertEqual(worth(part, told), worth(part, world))


if __name__ == "__main__":
    unittest.main()
