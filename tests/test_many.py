"""Promises [72], and of [2] and [3] what they say of lots of afters."""

import itertools
import unittest

import oracle
from helpers import ask, code, random_rows

from answerskept.keeping import kept, quarrel_world
from answerskept.many import kept_lots, left_out, quarrels

# A base, afters, the pairs that quarrel, the greatest lots that can be kept, the least lots that are left out.
LOTS = [
    ("tell a", ["tell b"], [], [(0,)], [()]), ("tell a", ["tell a"], [], [(0,)], [()]), ("tell a", ["tell b", "tell b"], [], [(0, 1)], [()]),
    ("tell a", ["tell b", "tell c"], [(0, 1)], [(0,), (1,)], [(0,), (1,)]),
    ("tell a", ["tell a", "tell b", "tell c"], [(1, 2)], [(0, 1), (0, 2)], [(1,), (2,)]),
    ("tell a", ["tell b", "tell c", "tell b"], [(0, 1), (1, 2)], [(0, 2), (1,)], [(0, 2), (1,)]),
    ("tell a", ["tell b", "tell c", "tell d"], [(0, 1), (0, 2), (1, 2)], [(0,), (1,), (2,)], [(0, 1), (0, 2), (1, 2)]),
    ("tell a", ["tell b", "tell c", "tell b", "tell c"], [(0, 1), (0, 3), (1, 2), (2, 3)], [(0, 2), (1, 3)], [(0, 2), (1, 3)]),
    ("tell a", ["tell b", "tell c", "tell d", "tell e", "tell g"], list(itertools.combinations(range(5), 2)),
     [(at,) for at in range(5)], list(itertools.combinations(range(5), 4))),
    ("tell a", ["if a b tell c tell a", "if b c tell b tell a", "tell b", "tell c"], [(2, 3)], [(0, 1, 2), (0, 1, 3)], [(2,), (3,)]),
    ("tell a", ["tell b", "if c d tell b tell a", "if c d tell a tell e", "if c d tell e tell a", "tell a"],
     [(0, 2), (0, 3), (1, 3)], [(0, 1, 4), (1, 2, 4), (2, 3, 4)], [(0, 1), (0, 3), (2, 3)]),
    ("tell a", ["tell b", "tell a", "if a b tell b tell a", "if a b tell a tell b", "tell b"], [], [(0, 1, 2, 3, 4)], [()])]


class ManyTest(unittest.TestCase):
    def check(self, base, afters):
        pairs, lots, out = (ask(self, call, base, afters) for call in (quarrels, kept_lots, left_out))
        many = len(afters)
        self.assertEqual(pairs, oracle.odd_pairs(base, afters), (base, afters))
        self.assertEqual(lots, oracle.greatest(many, lambda lot: oracle.can_be_kept(base, [afters[at] for at in lot])), (base, afters))
        self.assertEqual(out, oracle.least(many, lambda lot: oracle.can_be_kept(
            base, [afters[at] for at in range(many) if at not in lot])), (base, afters))
        self.assertEqual(sorted(tuple(at for at in range(many) if at not in lot) for lot in out), lots)
        for lot in lots:
            self.assertIsNone(quarrel_world(base, [afters[at] for at in lot]))
            self.assertTrue(kept(base, [afters[at] for at in lot]))
        return pairs, lots, out

    def test_the_example(self):
        start = code("tell a")
        afters = [code(text) for text in ("if a b tell c tell a", "if b c tell b tell a", "tell b", "tell c")]
        told = [quarrels(start, afters), kept_lots(start, afters), left_out(start, afters)]
        self.assertEqual(repr(told), "[[(2, 3)], [(0, 1, 2), (0, 1, 3)], [(2,), (3,)]]")

    def test_lots(self):
        for base, afters, pairs, lots, out in LOTS:
            told = self.check(code(base), [code(after) for after in afters])
            self.assertEqual(repr(list(told)), repr([pairs, lots, out]), (base, afters))

    def test_at_random(self):
        found = {}
        for _, _, base, afters in random_rows(240):
            pairs, lots, _ = self.check(base, afters)
            kind = (len(pairs) > 0, len(lots) > 2)
            found[kind] = found.get(kind, 0) + 1
        self.assertEqual(len(found), 3)
        self.assertGreater(min(found.values()), 5)

    def test_what_was_asked_ahead_changes_nothing(self):
        rows = [(code(base), [code(after) for after in afters]) for base, afters, *_ in LOTS]
        first = [[quarrels(*row), kept_lots(*row), left_out(*row)] for row in rows]
        self.assertEqual([[quarrels(*row), kept_lots(*row), left_out(*row)] for row in rows[::-1]], first[::-1])


if __name__ == "__main__":
    unittest.main()
