"""Promises [91], and of [2] what it says of least lots of claims."""

import unittest

import oracle
from helpers import ask, claim, code, of_ways, random_claims, random_pools, random_versions

from answerskept.claims import keeps_claim
from answerskept.pinning import pins, told_apart
from answerskept.sameness import do_same

START, LEFT, RIGHT, NEAR = (code(text) for text in ("tell a", "tell b", "if b c tell b tell a", "if a b tell c tell a"))
FOUR = [START, NEAR, RIGHT, LEFT]
CLAIMS = [claim("if a b yes no c"), claim("if b c yes no b"), claim("if a b no yes a")]


class PinningTest(unittest.TestCase):
    def check(self, codes, claims):
        """All pins, and what the claims tell apart."""
        found = []
        for index in range(len(codes)):
            told = ask(self, pins, codes, index, claims)
            self.assertEqual(told, oracle.pins(codes, index, claims), (codes, index, claims))
            found.append(told)
        lots = ask(self, told_apart, codes, claims)
        self.assertEqual(lots, oracle.told_apart(codes, claims), (codes, claims))
        self.assertEqual(sorted(index for lot in lots for index in lot), list(range(len(codes))))
        return found, lots

    def test_the_example(self):
        told = [pins(FOUR, 1, CLAIMS), pins(FOUR, 2, CLAIMS), told_apart(FOUR, CLAIMS)]
        self.assertEqual(repr(told), "[[(0,)], [], [[0], [1], [2, 3]]]")

    def test_kinds(self):
        a, b, c, d = (code("tell " + name) for name in "abcd")
        yes = [claim("yes " + name) for name in "abc"]
        again = code("if x x tell a tell b")
        for codes, claims, told, lots in [
                ([a], [], [[()]], [[0]]), ([a], yes, [[()]], [[0]]), ([a, again], [], [[()], [()]], [[0, 1]]),
                ([a, b], [], [[], []], [[0, 1]]), ([a, b], yes, [[(0,)], [(1,)]], [[0], [1]]), ([a, b, c], yes, [[(0,)], [(1,)], [(2,)]], [[0], [1], [2]]),
                ([a, b, d], yes, [[(0,)], [(1,)], []], [[0], [1], [2]]), ([d, d], yes, [[()], [()]], [[0, 1]]),
                ([a, again, b], yes, [[(0,)], [(0,)], [(1,)]], [[0, 1], [2]]), ([a, b], yes[:1] * 3, [[(0,), (1,), (2,)], []], [[0], [1]]),
                ([a, b], [claim("no c")], [[], []], [[0, 1]]), ([b, a, b], yes, [[(1,)], [(0,)], [(1,)]], [[0, 2], [1]]),
                # Of two claims each leaves one of the others, both leave none.
                ([a, RIGHT, NEAR], [claim("if b c yes no a"), claim("if a b yes no a"), claim("yes a")], [[(0, 1), (2,)], [], []], [[0], [1], [2]])]:
            self.assertEqual(self.check(codes, claims), (told, lots), (codes, claims))

    def test_no_claims(self):
        self.assertEqual(self.check(FOUR, []), ([[], [], [], []], [[0, 1, 2, 3]]))
        self.assertEqual(self.check([START, code("if a b tell b tell a")], []), ([[()], [()]], [[0, 1]]))

    def test_claims_that_stand_twice(self):
        for codes in (FOUR, FOUR[:2], FOUR[::-1]):
            self.check(codes, CLAIMS * 2)
        self.assertEqual(pins(FOUR, 1, CLAIMS * 2), [(0,), (3,)])

    def test_told_apart_by_none_and_each(self):
        codes = [code("tell " + name) for name in "abcdegh"]
        self.assertEqual(ask(self, told_apart, codes, [claim("no a"), claim("if a b if a b no yes no a")]), [[0, 1, 2, 3, 4, 5, 6]])
        claims = [claim("yes " + name) for name in "abcdeg"]
        self.assertEqual(ask(self, told_apart, codes, claims), [[0], [1], [2], [3], [4], [5], [6]])

    def test_at_random(self):
        found = {}
        for chance, pool in random_pools(120, 4):
            codes = random_versions(chance, pool, chance.randint(3, 7), 2)
            claims = random_claims(chance, pool, 2, 1) + [one for each in codes for one in of_ways(each)]
            claims = chance.sample(claims, chance.randint(0, min(6, len(claims))))
            for lots in self.check(codes, claims)[0]:
                kind = (len(lots), max([len(lot) for lot in lots], default=0))
                found[kind] = found.get(kind, 0) + 1
        self.assertGreater(len(found), 5, found)
        self.assertTrue(any(size > 1 for _, size in found))

    def test_what_is_told_goes_together(self):
        for chance, pool in random_pools(40, 4):
            codes = random_versions(chance, pool, 4, 1)
            claims = random_claims(chance, pool, 2, 1) + [one for each in codes for one in of_ways(each)][:4]
            for index, one in enumerate(codes):
                lots = pins(codes, index, claims)
                apart = [lot for lot in told_apart(codes, claims) if index in lot][0]
                if lots:
                    self.assertTrue(all(do_same(one, codes[other]) for other in apart))
                for lot in lots:
                    self.assertTrue(all(keeps_claim(one, claims[at]) for at in lot))

    def test_what_was_asked_ahead_changes_nothing(self):
        first = [pins(FOUR, index, CLAIMS) for index in range(4)]
        self.assertEqual([pins(FOUR, index, CLAIMS) for index in (3, 2, 1, 0)], first[::-1])


if __name__ == "__main__":
    unittest.main()
