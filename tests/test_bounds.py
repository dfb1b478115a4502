"""Inputs at the bounds of [4], each answered within a moment, and rightly."""

import unittest

import oracle
from bounds import SEVENS, SIXES, QuickTest, large_code, thirty_keys
from helpers import chances, random_facts

from answerskept.codes import answer, asked, depth, told_at, trimmed, ways
from answerskept.facts import can_hold, follows, least_grounds, world_for
from answerskept.forms import is_world
from answerskept.reasons import is_reason, reason
from answerskept.sameness import do_same, idle_ifs, is_paper, is_parting_world, lean, paper, parting_world
from answerskept.shapes import finest, shape, shapes
from answerskept.worlds import all_hold, thinned


class BoundsTest(QuickTest):
    def test_shapes_of_seven_terms(self):
        for pool in SEVENS:
            self.assertEqual(len(pool), 7)
            self.assertEqual(self.quick(shapes, pool), oracle.shapes(pool))
            for seed in range(10):
                world = thirty_keys(chances(seed), pool)
                self.assertIn(self.quick(shape, pool, world), oracle.shapes(pool))

    def test_six_facts_of_seven_terms(self):
        for seed in range(12):
            chance = chances(seed)
            pool = SEVENS[seed % len(SEVENS)]
            some, fact = random_facts(chance, pool, 6), random_facts(chance, pool, 1)[0]
            self.assertIs(self.quick(can_hold, some), oracle.can_hold(some))
            world = self.quick(world_for, some)
            self.assertEqual(world is not None, oracle.can_hold(some))
            self.assertTrue(world is None or all_hold(some, world))
            self.assertIs(self.quick(follows, some, fact), oracle.follows(some, fact))
            told = self.quick(reason, some, fact[1], fact[2])
            self.assertTrue(told is None or self.quick(is_reason, some, fact[1], fact[2], told))

    def test_grounds_among_six_facts(self):
        for seed in range(4):
            chance = chances(seed)
            pool = SIXES[seed % len(SIXES)]
            some, fact = random_facts(chance, pool, 6), random_facts(chance, pool, 1)[0]
            right = oracle.least(6, lambda lot: oracle.follows([some[at] for at in lot], fact))
            self.assertEqual(self.quick(least_grounds, some, fact), right)

    def test_codes_of_seven_terms(self):
        deepest = 0
        for seed in range(12):
            chance = chances(seed)
            pool = SEVENS[seed % len(SEVENS)]
            code = large_code(chance, pool)
            self.assertEqual(self.quick(ways, code), oracle.ways(code))
            deepest = max(deepest, self.quick(depth, code))
            less = self.quick(trimmed, code)
            for each in chance.sample(oracle.shapes(pool), 20):
                world = oracle.world_of(each)
                self.assertEqual(self.quick(answer, code, world), oracle.answer(code, world))
                self.assertEqual(self.quick(answer, less, world), oracle.answer(code, world))
                self.assertEqual(oracle.worth(self.quick(told_at, code, each), world), oracle.answer(code, world))
            world = thirty_keys(chance, pool)
            self.assertEqual(self.quick(answer, code, world), oracle.answer(code, world))
            self.assertEqual(answer(code, self.quick(thinned, world, asked([code]))), oracle.answer(code, world))
        self.assertEqual(deepest, 5)

    def test_sameness_of_seven_terms(self):
        for seed in range(12):
            chance = chances(seed)
            pool = SEVENS[seed % len(SEVENS)]
            one, other = large_code(chance, pool), large_code(chance, pool)
            mixed = ("if", pool[0], pool[1], trimmed(one), other)
            for first, second in ((one, other), (one, trimmed(one)), (mixed, one), (mixed, other)):
                same = oracle.do_same(first, second)
                self.assertIs(self.quick(do_same, first, second), same)
                world = self.quick(parting_world, first, second)
                self.assertEqual(world is None, same)
                self.assertIs(self.quick(is_parting_world, first, second, world), not same)
                self.assertIs(self.quick(is_parting_world, first, second, thirty_keys(chance, pool)) and same, False)

    def test_papers_and_lean_codes_of_six_terms(self):
        for seed in range(9):
            chance = chances(seed)
            pool = SIXES[seed % len(SIXES)]
            self.assertEqual(len(pool), 6)
            one, other = large_code(chance, pool), large_code(chance, pool)
            same = grafted(chance.choice((one, other)), one)
            found = self.quick(paper, one, same)
            self.assertIs(self.quick(is_paper, one, same, found), True)
            self.assertIs(self.quick(is_paper, one, other, found), oracle.do_same(one, other))
            self.assertEqual(self.quick(idle_ifs, one), oracle.idle_ifs(one))
            less = self.quick(lean, one)
            self.assertEqual(self.quick(idle_ifs, less), [])
            self.assertTrue(oracle.do_same(one, less))

    def test_finest_of_seven_terms(self):
        for seed in range(20):
            chance = chances(seed)
            pool = SEVENS[seed % len(SEVENS)]
            pairs = [(chance.choice(pool), chance.choice(pool)) for _ in range(3)]
            told = self.quick(finest, pool, pairs)
            fitting = [each for each in oracle.shapes(pool)
                       if all(oracle.lot_of(each, one) == oracle.lot_of(each, other) for one, other in pairs)]
            self.assertEqual([told], [each for each in fitting if len(each) == max(len(one) for one in fitting)])

    def test_worlds_told_are_worlds(self):
        for seed in range(8):
            chance = chances(seed)
            one, other = large_code(chance, SEVENS[0]), large_code(chance, SEVENS[0])
            world = self.quick(parting_world, one, other)
            self.assertTrue(world is None or is_world(world) and list(world) == sorted(world))


def grafted(top, code):
    """A code that does the same as another one, with ifs of a third above it."""
    if top[0] == "tell":
        return code
    return top[:3] + (grafted(top[3], code), grafted(top[4], code))


if __name__ == "__main__":
    unittest.main()
