"""Promises [32] and [6], and of [3] and [4] what they say of reasons."""

import unittest

import oracle
from helpers import any_values, ask, chances, facts, random_facts, random_terms, term, terms, twisted

from answerskept.facts import can_hold, follows
from answerskept.reasons import is_reason, reason

A, B, C, D = terms("a b c d")
FA, FB = terms("f(a) f(b)")
SOME = facts("a=b a/c f(a)=c")


def steps(text):
    """The list of tuples that a text like a,b f(a),c writes, with ; within a pair."""
    return [tuple(terms(pair.replace(";", " "))) for pair in text.split()]


class ReasonsTest(unittest.TestCase):
    def test_the_example(self):
        told = [is_reason(SOME, FB, C, [(A, B), (FA, FB), (FB, FA), (FA, C), (FB, C)]), is_reason(SOME, FB, C, [(FB, C)]),
                reason(SOME, A, C)]
        self.assertEqual(repr(told), "[True, False, None]")

    def check(self, some, one, other):
        """That a reason is told just where one leads, and is one."""
        told = ask(self, reason, some, one, other)
        alikes = [fact for fact in some if fact[0] == "alike"]
        self.assertIs(told is not None, oracle.follows(alikes, ("alike", one, other)), (some, one, other))
        if told is not None:
            self.assertTrue(oracle.is_reason(some, one, other, told), (some, told))
            self.assertIs(ask(self, is_reason, some, one, other, told), True)
        return told

    def test_reasons(self):
        for text, one, other, leads in [
                ("", "a", "a", True), ("", "a", "b", False), ("a=b", "a", "b", True), ("a=b", "b", "a", True),
                ("a/b", "a", "b", False), ("a=b b=c", "a", "c", True), ("a=b c=b c=d", "d", "a", True),
                ("a=b", "f(a)", "f(b)", True), ("a=b", "f(a)", "f(b,b)", False), ("a=b", "f(a,b)", "f(b,a)", True),
                ("a=b", "g(f(a),c)", "g(f(b),c)", True), ("f(a)=f(b)", "a", "b", False), ("a=b", "x", "x", True),
                ("f(a)=a", "f(f(f(a)))", "a", True), ("f(f(f(a)))=a f(f(f(f(f(a)))))=a", "f(a)", "a", True),
                ("a=b a/b", "x", "y", False), ("a/a", "a", "b", False), ("a/a a=b", "b", "a", True), ("a=a", "a", "b", False),
                ("f=g", "f(a)", "g(a)", False), ("a=f", "f(f)", "f(a)", True), ("a=b a=b b=a", "b", "a", True)]:
            told = self.check(facts(text), term(one), term(other))
            self.assertIs(told is not None, leads, (text, one, other))

    def test_random_reasons(self):
        found = [0, 0]
        for seed in range(150):
            chance = chances(seed)
            pool = oracle.closed(random_terms(chance, 5))
            if len(pool) > 6:
                continue
            some = random_facts(chance, pool, chance.randint(0, 4))
            told = self.check(some, chance.choice(pool), chance.choice(pool))
            found[told is not None] += 1
        self.assertGreater(min(found), 20)

    def test_a_reason_leads_where_it_follows(self):
        """[6]"""
        for seed in range(120):
            chance = chances(1000 + seed)
            pool = oracle.closed(random_terms(chance, 6))
            some = random_facts(chance, pool, chance.randint(0, 5))
            if can_hold(some):
                for one in pool:
                    for other in pool:
                        self.assertEqual(reason(some, one, other) is not None, follows(some, ("alike", one, other)))

    def test_long_reasons(self):
        names = "abcdefghijklmnopqrst"
        rows = [("alike", (one,), (other,)) for one, other in zip(names, names[1:])]
        told = ask(self, reason, rows, ("t",), ("a",))
        self.assertTrue(oracle.is_reason(rows, ("t",), ("a",), told))
        self.assertIs(ask(self, is_reason, rows, ("t",), ("a",), told), True)

    def test_each_way_to_be_justified(self):
        for text, right in [
                ("a;a", True), ("f(z);f(z)", True), ("a;b", True), ("b;a", True), ("a;c", False), ("f(a);f(b)", False),
                ("a;b f(a);f(b)", True), ("f(a);f(b) a;b", False), ("a;b f(b);f(a)", False), ("a;b b;a f(b);f(a)", True),
                ("b;d a;b a;d", False), ("f(a);c c;f(a)", True), ("c;f(a) f(a);c", True), ("a;b b;b a;b", True),
                ("a;b f(a);f(b) f(b);f(a) f(a);c f(b);c", True), ("a;b f(a);f(b) f(a);c f(b);c", False),
                ("a;b g(a,z);g(b,z)", True), ("a;b g(a,z);g(b,y)", False), ("a;b g(a,a);g(b,b)", True),
                ("a;b g(z,a,y);g(z,b,y)", True), ("a;b g(a);h(b)", False), ("a;b g(a,b);g(b)", False), ("a;b g(a);g(b,b)", False),
                ("g(a);g(a)", True), ("z;y", False), ("a;b a(a);a(b)", True), ("a;b a(a);b(b)", False),
                ("a;b f(a);f(b) g(f(a));g(f(b))", True), ("a;b g(f(a));g(f(b))", False), ("x;x a;b", True),
                ("y;z z;y a;b", False), ("c;f(a) f(a);f(a) c;f(a)", True), ("a;b b;a a;a", True), ("g(z);g(y)", False)]:
            thing = steps(text)
            one, other = thing[-1]
            self.assertIs(oracle.is_reason(SOME, one, other, thing), right, text)
            self.assertIs(ask(self, is_reason, SOME, one, other, thing), right, text)

    def test_what_is_ahead_counts_alone(self):
        some = facts("a=b b=c")
        self.assertIs(is_reason(some, A, C, steps("a;b b;c a;c")), True)
        self.assertIs(is_reason(some, A, C, steps("a;b a;c")), False)
        self.assertIs(is_reason(some, A, C, steps("b;c a;c")), False)
        self.assertIs(is_reason(some, A, C, steps("a;c a;b b;c a;c")), False)
        self.assertIs(is_reason(some, C, A, steps("a;b b;c a;c c;a")), True)
        self.assertIs(is_reason(some, C, A, steps("c;a")), False)
        self.assertIs(is_reason(some, C, A, steps("a;b b;c c;a")), False)

    def test_the_last_one_counts(self):
        some = facts("a=b")
        self.assertIs(is_reason(some, A, B, steps("a;b b;a")), False)
        self.assertIs(is_reason(some, B, A, steps("a;b b;a")), True)
        self.assertIs(is_reason(some, A, B, []), False)
        self.assertIs(is_reason(some, A, A, []), False)
        self.assertIs(is_reason(some, A, B, tuple(steps("a;b"))), False)
        self.assertIs(is_reason(some, A, B, [[A, B]]), False)
        self.assertIs(is_reason(some, A, B, [(A, B, A)]), False)
        self.assertIs(is_reason(some, A, B, [(A,), (A, B)]), False)
        self.assertIs(is_reason(some, A, B, [(A, None), (A, B)]), False)
        self.assertIs(is_reason(some, A, B, ["ab", (A, B)]), False)
        self.assertIs(is_reason(some, A, B, {0: (A, B)}), False)

    def test_steps_by_terms_that_nobody_asks_for(self):
        some = facts("a=b")
        self.assertIs(is_reason(some, A, B, steps("w(q,q);w(q,q) a;b w(a,q);w(b,q) b;a a;b")), True)
        self.assertIs(is_reason(some, A, B, steps("w(q);w(p) a;b")), False)
        self.assertIs(is_reason([], term("w(q)"), term("w(q)"), steps("w(q);w(q)")), True)

    def test_unlike_facts_justify_nothing(self):
        some = facts("a/b a/a")
        self.assertIs(is_reason(some, A, B, steps("a;b")), False)
        self.assertIs(is_reason(some, A, A, steps("a;a")), True)

    def test_any_values(self):
        for thing in any_values():
            for wrong in (thing, [thing], [thing, (A, B)], [(A, B), thing], [(A, B), (thing, thing)], [(thing, B), (A, B)]):
                self.assertIs(is_reason(SOME, A, B, wrong), False)

    def test_twisted_reasons(self):
        found = [0, 0]
        for thing in (steps("a;b f(a);f(b) f(b);f(a) f(a);c f(b);c"), steps("a;b b;a f(b);f(a) f(a);c f(b);c"),
                      reason(SOME, FB, C)):
            for other in twisted(thing):
                right = oracle.is_reason(SOME, FB, C, other)
                self.assertIs(is_reason(SOME, FB, C, other), right, other)
                found[right] += 1
        self.assertGreater(min(found), 5)

    def test_large_lists(self):
        thing = [(A, B), (B, A)] * 150 + [(FA, FB)]
        self.assertIs(ask(self, is_reason, SOME, FA, FB, thing), True)
        self.assertIs(ask(self, is_reason, SOME, FA, FB, [(("x", (name,)), ("x", (name,))) for name in "abc"] * 100), False)


if __name__ == "__main__":
    unittest.main()
