"""Promises [30], and of [2] to [4] what they say of shapes."""

import unittest

import oracle
from helpers import any_values, ask, chances, random_terms, term, terms, twisted

from answerskept.errors import TooMany
from answerskept.forms import is_world
from answerskept.shapes import finest, is_finer, is_shape, shape, shapes, world_of

A, B, C = terms("a b c")
SEVEN = terms("a b c d e g h")
LISTS = [oracle.closed(terms(text)) for text in (
    "", "a", "a b", "a b c", "f(a) f(b)", "f(a) f(a,a) f", "a(a) a(a(a))", "f(f(f(a)))", "f(a,b) f(b,a) f(a,a)",
    "f(a) g(b) c", "f(a) f(a,b) f(b)", "g(f(a),b) g(f(b),a)")]


def random_world(chance, pool):
    """A world with some of the keys that some terms may ask for, and some others."""
    world = {("zz", 1): 5, ("f",): 1}
    for each in pool:
        for _ in range(4):
            world[(each[0],) + tuple(chance.randint(0, 2) for _ in each[1:])] = chance.randint(0, 2)
    return world


class ShapesTest(unittest.TestCase):
    def test_the_example(self):
        self.assertEqual(repr(shapes([A, B])), "[((('a',),), (('b',),)), ((('a',), ('b',)),)]")
        both = finest(oracle.closed(terms("f(a) f(b)")), [(A, B)])
        self.assertEqual(repr([both, world_of(both)]), (
            "[((('a',), ('b',)), (('f', ('a',)), ('f', ('b',)))), {('a',): 0, ('b',): 0, ('f', 0): 1}]"))

    def test_no_terms(self):
        self.assertEqual(ask(self, shapes, []), [()])
        self.assertEqual(ask(self, shape, [], {("a",): 1}), ())
        self.assertEqual(ask(self, finest, [], []), ())
        self.assertEqual(ask(self, world_of, ()), {})
        self.assertIs(ask(self, is_shape, [], ()), True)
        self.assertIs(ask(self, is_shape, [], ((),)), False)
        self.assertIs(ask(self, is_shape, [], []), False)
        self.assertIs(ask(self, is_finer, (), ()), True)

    def test_all_shapes(self):
        for pool in LISTS:
            self.assertEqual(ask(self, shapes, pool), oracle.shapes(pool), pool)
        for seed in range(60):
            pool = random_terms(chances(seed), 6)[:6]
            pool = oracle.closed(pool)[:7]
            if pool == oracle.closed(pool):
                self.assertEqual(ask(self, shapes, pool), oracle.shapes(pool), pool)

    def test_seven_terms(self):
        told = ask(self, shapes, SEVEN)
        self.assertEqual(len(told), 877)
        self.assertEqual(told, sorted(told))
        self.assertEqual(told, oracle.shapes(SEVEN))
        self.assertEqual(shapes(oracle.closed(terms("f(f(f(f(f(f(a))))))")))[0],
                         tuple((each,) for each in oracle.closed(terms("f(f(f(f(f(f(a))))))"))))

    def test_more_than_seven_terms(self):
        for pool in (sorted(SEVEN + [("i",)]), oracle.closed(terms("f(f(f(f(f(f(f(a)))))))")), terms("a b c d e g h i j k l")):
            self.assertGreater(len(pool), 7)
            with self.assertRaises(TooMany) as held:
                shapes(pool)
            self.assertEqual(held.exception.limit, 7)
            self.assertEqual(len(pool), len(oracle.closed(pool)))

    def test_unlike_works_and_things_of_one_name(self):
        pool = oracle.closed(terms("f(a) f(a,a) f"))
        self.assertIn(tuple((each,) for each in pool), shapes(pool))
        self.assertEqual(len(shapes(pool)), 15)
        pool = oracle.closed(terms("a(a)"))
        self.assertEqual(shapes(pool), [((A,), (("a", A),)), ((A, ("a", A)),)])

    def test_each_shape_is_that_of_its_world(self):
        for pool in LISTS + [SEVEN]:
            for each in shapes(pool):
                world = ask(self, world_of, each)
                self.assertTrue(is_world(world))
                self.assertEqual(world, oracle.world_of(each))
                self.assertEqual(list(world), sorted(world))
                self.assertEqual(shape(pool, world), each)

    def test_shape_in_worlds(self):
        for pool in LISTS:
            if pool:
                self.assertEqual(ask(self, shape, pool, {}), (tuple(pool),))
        for seed in range(120):
            chance = chances(seed)
            pool = oracle.closed(random_terms(chance, 6))
            world = random_world(chance, pool)
            worths = sorted({oracle.worth(each, world) for each in pool})
            lots = [tuple(each for each in pool if oracle.worth(each, world) == worth) for worth in worths]
            told = ask(self, shape, pool, world)
            self.assertEqual(told, tuple(sorted(lots)))
            self.assertIs(is_shape(pool, told), True)

    def test_lots_are_ascending_and_not_in_the_order_of_worths(self):
        self.assertEqual(shape([A, B, C], {("a",): 5, ("b",): 3, ("c",): 5}), ((A, C), (B,)))

    def test_is_shape_of_any_values(self):
        for pool in LISTS:
            right = oracle.shapes(pool)
            for thing in any_values() + [(thing,) for thing in any_values()] + [((thing,),) for thing in any_values()]:
                self.assertIs(is_shape(pool, thing), isinstance(thing, tuple) and thing in right)

    def test_is_shape_of_twisted_shapes(self):
        for pool in LISTS:
            right = oracle.shapes(pool)
            for each in right[:3] + right[-3:]:
                self.assertIs(ask(self, is_shape, pool, each), True)
                for thing in twisted(each):
                    self.assertIs(is_shape(pool, thing), isinstance(thing, tuple) and thing in right, (pool, thing))

    def test_is_shape_of_all_partitions(self):
        for pool in LISTS + [oracle.closed(terms("f(a) f(b) f(c)")), oracle.closed(terms("g(f(a),a) g(a,f(a))"))]:
            right = oracle.shapes(pool)
            for each in oracle.partitions(pool):
                self.assertIs(is_shape(pool, each), each in right)

    def test_is_shape_wants_just_the_terms(self):
        for thing in [((A,),), ((A,), (B,), (C,)), ((A,), (B,), ()), ((B,), (A,)), ((B, A),), ((A, A), (B,)), ((A, B), (B,)),
                      [(A,), (B,)], ([A], [B]), (("a", "b"),), ((A,), ("b",)), (A, B), ((A, B), ()), ((A, ["b"]),)]:
            self.assertIs(ask(self, is_shape, [A, B], thing), False, thing)

    def test_finest(self):
        for seed in range(150):
            chance = chances(seed)
            pool = oracle.closed(random_terms(chance, 5))[:6]
            if pool != oracle.closed(pool):
                continue
            pairs = [(chance.choice(pool), chance.choice(pool)) for _ in range(chance.randint(0, 3))]
            told = ask(self, finest, pool, pairs)
            fitting = [each for each in oracle.shapes(pool)
                       if all(oracle.lot_of(each, one) == oracle.lot_of(each, other) for one, other in pairs)]
            self.assertEqual([told], [each for each in fitting if len(each) == max(len(other) for other in fitting)])
            self.assertTrue(all(ask(self, is_finer, told, each) for each in fitting))
            turned = [(other, one) for one, other in pairs]
            self.assertEqual(finest(pool, turned + pairs[::-1] + turned), told)

    def test_finest_of_no_pairs_and_of_equal_terms(self):
        for pool in LISTS:
            for pairs in ([], [(each, each) for each in pool]):
                self.assertEqual(ask(self, finest, pool, pairs), tuple((each,) for each in pool))

    def test_finest_goes_on_along_works(self):
        pool = oracle.closed(terms("f(f(f(f(f(a)))))"))
        fives = [(term("f(f(f(f(f(a)))))"), A), (term("f(f(f(a)))"), A)]
        self.assertEqual(finest(pool, fives), (tuple(pool),))
        self.assertEqual(finest(pool, [(term("f(f(a))"), A)]), (tuple(pool[::2]), tuple(pool[1::2])))
        pool = oracle.closed(terms("g(f(a),b) g(f(b),a) c"))
        self.assertEqual(finest(pool, [(A, B), (C, term("g(f(a),b)"))]),
                         ((A, B), (C, term("g(f(a),b)"), term("g(f(b),a)")), (term("f(a)"), term("f(b)"))))

    def test_finest_of_many_terms(self):
        pool = oracle.closed(terms("f(a) f(b) f(c) f(d) g(a,b) g(c,d) g(f(a),f(b)) g(f(c),f(d)) x y z"))
        self.assertGreater(len(pool), 12)
        pairs = [(A, C), (B, ("d",)), (("x",), ("y",)), (("y",), ("z",))]
        told = ask(self, finest, pool, pairs)
        self.assertEqual(told, tuple(sorted([
            (A, C), (B, ("d",)), tuple(terms("f(a) f(c)")), tuple(terms("f(b) f(d)")), tuple(terms("g(a,b) g(c,d)")),
            tuple(terms("g(f(a),f(b)) g(f(c),f(d))")), tuple(terms("x y z"))])))
        self.assertIs(ask(self, is_shape, pool, told), True)
        self.assertEqual(ask(self, shape, pool, world_of(told)), told)

    def test_is_finer(self):
        for pool in LISTS:
            all_of_them = oracle.shapes(pool)[:16]
            for one in all_of_them:
                for other in all_of_them:
                    told = ask(self, is_finer, one, other)
                    self.assertIs(told, all(any({*lot} <= {*large} for large in other) for lot in one), (one, other))


if __name__ == "__main__":
    unittest.main()
