"""Promises [5] and [2]: answers hang on shapes, and doing the same means equal answers in all worlds."""

import itertools
import unittest

import oracle
from helpers import chances, random_code, random_facts, random_terms, term

from answerskept.codes import answer, asked, told_at, ways
from answerskept.sameness import do_same
from answerskept.shapes import is_shape, shape, shapes, world_of
from answerskept.worlds import all_hold, worth


def random_world(chance, pool):
    world = {}
    for each in pool:
        for _ in range(4):
            world[(each[0],) + tuple(chance.randint(0, 3) for _ in each[1:])] = chance.randint(0, 3)
    return world


class GuaranteesTest(unittest.TestCase):
    def test_each_shape_is_one_of_some_world(self):
        for seed in range(40):
            pool = oracle.closed(random_terms(chances(seed), 5))[:7]
            if pool == oracle.closed(pool):
                for each in shapes(pool):
                    self.assertEqual(shape(pool, world_of(each)), each)

    def test_shapes_of_worlds_are_shapes(self):
        for seed in range(100):
            chance = chances(seed)
            pool = oracle.closed(random_terms(chance, 5))
            self.assertTrue(is_shape(pool, shape(pool, random_world(chance, pool))))

    def test_what_is_told_hangs_on_the_shape(self):
        for seed in range(150):
            chance = chances(seed)
            pool = oracle.closed(random_terms(chance, 5))
            each, world = random_code(chance, pool, 4), random_world(chance, pool)
            told = told_at(each, shape(pool, world))
            self.assertEqual(answer(each, world), worth(told, world))
            twin = world_of(shape(pool, world))
            self.assertEqual(answer(each, twin), worth(told, twin))
            for fact in random_facts(chance, pool, 4):
                self.assertEqual(all_hold([fact], world), all_hold([fact], twin))

    def test_whether_a_guard_holds_hangs_on_the_shape(self):
        for seed in range(100):
            chance = chances(seed)
            pool = oracle.closed(random_terms(chance, 5))
            guard = random_code(chance, pool, 4, [("yes",), ("no",)])
            world = random_world(chance, pool)
            twin = world_of(shape(pool, world))
            self.assertEqual([end for row, end in ways(guard) if all_hold(list(row), world)],
                             [end for row, end in ways(guard) if all_hold(list(row), twin)])

    def test_equal_answers_in_all_small_worlds(self):
        """Codes of three things and f(a), in all worlds over four worths: these have all shapes."""
        pool = [("a",), ("b",), ("c",), term("f(a)")]
        keys = [("a",), ("b",), ("c",)] + [("f", number) for number in range(4)]
        rows = itertools.product(range(4), repeat=7)
        worlds = [dict(zip(keys, row)) for row in rows if row[0] < 2 and row[5:] == (0, 1)]
        for seed in range(40):
            chance = chances(seed)
            one, other = random_code(chance, pool, 3), random_code(chance, pool, 3)
            if set(asked([one, other])) <= set(pool):
                same = all(answer(one, world) == answer(other, world) for world in worlds)
                self.assertIs(do_same(one, other), same, (one, other))


if __name__ == "__main__":
    unittest.main()
