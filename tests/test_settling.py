"""Promises [73], and of [2] and [3] what they say of orders of afters."""

import itertools
import unittest

import oracle
from helpers import ask, code, random_rows

from answerskept.forms import is_code, is_guard
from answerskept.guards import both, can, same_guard
from answerskept.keeping import kept
from answerskept.sameness import do_same
from answerskept.settling import order_lots, orders_for, settled, shows

START = code("tell a")
NEAR, RIGHT, LEFT, LAST = (code(text) for text in ("if a b tell c tell a", "if b c tell b tell a", "tell b", "tell c"))
OTHER = {("a",): 1, ("b",): 2, ("c",): 3}


class SettlingTest(unittest.TestCase):
    def check_settled(self, base, afters, order):
        made = ask(self, settled, base, afters, order)
        self.assertTrue(is_code(made))
        for world in oracle.worlds_of(base, made, *afters):
            self.assertEqual(oracle.answer(made, world), oracle.settled_answer(base, afters, order, world), (base, afters, order))
        for index in range(len(afters)):
            guard = ask(self, shows, base, afters, order, index)
            self.assertTrue(is_guard(guard))
            for world in oracle.worlds_of(base, guard, *afters):
                self.assertIs(oracle.guard_holds(guard, world), oracle.first_after(base, afters, order, world) == index,
                              (base, afters, order, index))
        return made

    def check_orders(self, base, afters, wishes):
        told = ask(self, orders_for, base, afters, wishes)
        right = [order for order in oracle.orders(afters)
                 if all(oracle.settled_answer(base, afters, order, world) == much for world, much in wishes)]
        self.assertEqual(told, right, (base, afters, wishes))
        return told

    def test_the_example(self):
        afters = [NEAR, RIGHT, LEFT, LAST]
        told = [do_same(settled(START, afters[2:], (1, 0)), code("if a c tell b tell c")), order_lots(START, afters[2:])]
        self.assertEqual(repr(told), "[True, [[(0, 1)], [(1, 0)]]]")
        self.assertEqual(repr(orders_for(START, afters[1:], [(OTHER, 3)])), "[(0, 2, 1), (2, 0, 1), (2, 1, 0)]")

    def test_settled(self):
        for base, afters, order, right in [
                ("tell a", ["tell b"], (0,), "tell b"), ("tell a", ["tell a"], (0,), "tell a"),
                ("tell a", ["tell b", "tell c"], (0, 1), "if a b tell c tell b"), ("tell a", ["tell b", "tell c"], (1, 0), "if a c tell b tell c"),
                ("tell a", ["tell a", "tell c", "tell b"], (0, 1, 2), "if a c tell b tell c"),
                ("tell a", ["tell b", "tell c", "tell d"], (2, 0, 1), "if a d if a b tell c tell b tell d"),
                ("tell a", ["tell b", "tell c", "tell d"], (1, 2, 0), "if a c if a d tell b tell d tell c"),
                ("if a b tell c tell d", ["tell c", "tell d"], (0, 1), "if a b tell d tell c"),
                ("tell f(a)", ["if a b tell f(b) tell b", "tell c"], (0, 1), "if a b tell c if b f(a) tell c tell b"),
                ("tell a", ["tell b", "tell b"], (1, 0), "tell b"), ("tell a", ["tell b", "tell c", "tell d", "tell e", "tell a"], (4, 3, 2, 1, 0),
                                                                    "if a e if a d if a c tell b tell c tell d tell e")]:
            made = self.check_settled(code(base), [code(after) for after in afters], order)
            self.assertIs(do_same(made, code(right)), True, (base, afters, order))

    def test_shows(self):
        afters = [LEFT, LAST]
        for order, index, right in [((0, 1), 0, "if a b no yes"), ((0, 1), 1, "if a b if a c no yes no"), ((1, 0), 0, "if a c if a b no yes no"),
                                    ((1, 0), 1, "if a c no yes")]:
            self.assertIs(same_guard(ask(self, shows, START, afters, order, index), code(right)), True, (order, index))
        for order in ((0, 1), (1, 0)):
            self.assertIs(same_guard(shows(START, [LEFT, START], order, 1), ("no",)), True)
            self.assertIs(same_guard(shows(START, [LEFT, LEFT], order, order[1]), ("no",)), True)
        self.assertIs(same_guard(shows(START, [START], (0,), 0), ("no",)), True)

    def test_what_shows_shows_alone(self):
        afters = [NEAR, RIGHT, LEFT, LAST]
        for order in itertools.permutations(range(4)):
            guards = [shows(START, afters, order, index) for index in range(4)]
            for one, other in itertools.combinations(guards, 2):
                self.assertIs(can(both(one, other)), False, order)
            self.check_settled(START, afters, order)

    def test_orders_for(self):
        afters = [LEFT, LAST, START]
        every = list(itertools.permutations(range(3)))
        same = {("a",): 1, ("b",): 1, ("c",): 1}
        for wishes, told in [
                ([], every), ([(OTHER, 2)], [(0, 1, 2), (0, 2, 1), (2, 0, 1)]), ([(OTHER, 3)], [(1, 0, 2), (1, 2, 0), (2, 1, 0)]),
                ([(OTHER, 1)], []), ([(OTHER, 2), (OTHER, 3)], []), ([(OTHER, 4)], []), ([(same, 1)], every), ([(same, 0)], []), ([(same, 2)], []),
                ([({}, 0)], every), ([({}, 1)], []), ([(OTHER, 2), (same, 1), ({}, 0), (OTHER, 2)], [(0, 1, 2), (0, 2, 1), (2, 0, 1)]),
                ([({("b",): 1}, 1)], every), ([({("a",): 5}, 0)], every), ([({("a",): 5}, 5)], []), ([({("b",): 10 ** 39, ("c",): 1}, 10 ** 39)], [
                    (0, 1, 2), (0, 2, 1), (2, 0, 1)]), ([(OTHER, 3), ({("a",): 3, ("b",): 2, ("c",): 3}, 2)], [(1, 0, 2), (1, 2, 0), (2, 1, 0)])]:
            self.assertEqual(self.check_orders(START, afters, wishes), told, wishes)
        self.assertEqual(self.check_orders(START, [LEFT], []), [(0,)])
        self.assertEqual(self.check_orders(START, [LEFT], [(OTHER, 2)]), [(0,)])
        self.assertEqual(self.check_orders(START, [LEFT], [(OTHER, 1)]), [])

    def test_order_lots(self):
        for base, afters, told in [
                ("tell a", ["tell b"], [[(0,)]]), ("tell a", ["tell b", "tell b"], [[(0, 1), (1, 0)]]),
                ("tell a", ["tell a", "tell b"], [[(0, 1), (1, 0)]]), ("tell a", ["tell b", "tell c"], [[(0, 1)], [(1, 0)]]),
                ("tell a", ["tell b", "tell c", "tell a"], [[(0, 1, 2), (0, 2, 1), (2, 0, 1)], [(1, 0, 2), (1, 2, 0), (2, 1, 0)]]),
                ("tell a", ["if b c tell b tell a", "if b c tell a tell b"], [[(0, 1), (1, 0)]]),
                ("tell a", ["tell b", "tell b", "if a b tell c tell b"], [[(0, 1, 2), (0, 2, 1), (1, 0, 2), (1, 2, 0), (2, 0, 1), (2, 1, 0)]]),
                ("tell a", ["tell b", "if c d tell b tell a", "if c d tell e tell a"],
                 [[(0, 1, 2), (0, 2, 1), (1, 0, 2), (1, 2, 0)], [(2, 0, 1), (2, 1, 0)]]),
                ("tell a", ["tell b", "tell c", "tell d"], [[order] for order in itertools.permutations(range(3))])]:
            base, afters = code(base), [code(after) for after in afters]
            self.assertEqual(repr(ask(self, order_lots, base, afters)), repr(told), (base, afters))
            self.assertEqual(oracle.order_lots(base, afters), told)

    def test_orders_of_one_lot_do_the_same(self):
        afters = [NEAR, RIGHT, LEFT, LAST]
        lots = order_lots(START, afters)
        self.assertEqual(sorted(order for lot in lots for order in lot), sorted(itertools.permutations(range(4))))
        firsts = [settled(START, afters, lot[0]) for lot in lots]
        for lot, first in zip(lots, firsts):
            for order in lot:
                self.assertIs(do_same(settled(START, afters, order), first), True)
        for one, other in itertools.combinations(firsts, 2):
            self.assertIs(do_same(one, other), False)

    def test_at_random(self):
        lots = {}
        for chance, _, base, afters in random_rows(150):
            order = tuple(chance.sample(range(len(afters)), len(afters)))
            made = self.check_settled(base, afters, order)
            if not oracle.odd_pairs(base, afters):
                self.assertIs(do_same(made, kept(base, afters)), True)
                self.assertEqual(len(order_lots(base, afters)), 1)
            worlds = chance.sample(oracle.worlds_of(base, *afters), min(3, len(oracle.worlds_of(base, *afters))))
            wishes = [(world, oracle.settled_answer(base, afters, order, world)) for world in worlds]
            self.assertIn(order, self.check_orders(base, afters, wishes))
            self.check_orders(base, afters, wishes[:1] + [(world, much + chance.randint(0, 1)) for world, much in wishes[1:]])
            told = ask(self, order_lots, base, afters)
            self.assertEqual(told, oracle.order_lots(base, afters))
            lots[len(told)] = lots.get(len(told), 0) + 1
        self.assertGreater(len(lots), 4)

    def test_wishes_stay_as_they_were(self):
        wishes = [({("c",): 3, ("b",): 2, ("a",): 1}, 3)]
        orders_for(START, [LEFT, LAST], wishes)
        self.assertEqual(repr(wishes), "[({('c',): 3, ('b',): 2, ('a',): 1}, 3)]")

    def test_what_was_asked_ahead_changes_nothing(self):
        afters = [NEAR, RIGHT, LEFT, LAST]
        every = list(itertools.permutations(range(4)))
        first = [repr([settled(START, afters, order), shows(START, afters, order, 2), order_lots(START, afters[1:])]) for order in every]
        self.assertEqual(first[::-1], [
            repr([settled(START, afters, order), shows(START, afters, order, 2), order_lots(START, afters[1:])]) for order in every[::-1]])


if __name__ == "__main__":
    unittest.main()
