"""Promises [81] and [9]: changes carried to other codes, there and back, and over one another."""

import itertools
import unittest

import oracle
from helpers import ask, code, random_code, random_pools, random_versions

from answerskept.carrying import back_again, carried, is_exact, left_world, over
from answerskept.forms import is_code, is_world
from answerskept.many import quarrels
from answerskept.sameness import do_same

START, LEFT, RIGHT, NEAR = (code(text) for text in ("tell a", "tell b", "if b c tell b tell a", "if a b tell c tell a"))

# Before, after, base; what is carried; whether it is left somewhere, and whether it is carried exactly.
CARRIED = [
    ("tell a", "tell b", "tell a", "tell b", False, True), ("tell a", "tell b", "tell b", "tell b", False, False),
    ("tell a", "tell b", "tell c", "if a c tell b tell c", True, False), ("tell a", "tell a", "tell c", "tell c", False, True),
    ("tell a", "tell a", "tell a", "tell a", False, True), ("tell a", "if a b tell a tell a", "tell c", "tell c", False, True),
    ("tell a", "if b c tell b tell a", "tell b", "tell b", False, False), ("tell a", "if b c tell b tell a", "tell c", "tell c", False, False),
    ("tell a", "if b c tell b tell a", "if b c tell a tell d", "if b c tell b tell d", False, True),
    ("tell a", "if b c tell b tell a", "if b c tell d tell a", "if b c if a d tell b tell d tell a", True, False),
    ("tell a", "tell b", "if b c tell b tell a", "tell b", False, False),
    ("tell a", "tell b", "if a b tell c tell a", "if a b tell c tell b", False, True),
    ("tell f(a)", "tell f(b)", "tell f(c)", "if f(a) f(c) tell f(b) tell f(c)", True, False),
    ("tell f(a)", "tell f(b)", "if a b tell c tell f(a)", "if a b tell c tell f(b)", False, True),
    ("if a b tell a tell c", "tell a", "if a b tell d tell c", "if a b if a d tell a tell d tell a", False, True),
]


class CarryingTest(unittest.TestCase):
    def check(self, before, after, base):
        """What all functions tell of a change and a base, seen in all worlds."""
        made = ask(self, carried, before, after, base)
        self.assertTrue(is_code(made))
        worlds = oracle.worlds_of(before, after, base, made)
        for world in worlds:
            self.assertEqual(oracle.answer(made, world), oracle.carried_answer(before, after, base, world), (before, after, base))
        world = ask(self, left_world, before, after, base)
        is_left = any(oracle.is_left(before, after, base, each) for each in worlds)
        self.assertIs(world is not None, is_left, (before, after, base))
        if is_left:
            self.assertTrue(is_world(world))
            self.assertEqual(list(world), sorted(world))
            self.assertTrue(oracle.is_left(before, after, base, world))
        exact = oracle.is_exact(before, after, base)
        self.assertIs(ask(self, is_exact, before, after, base), exact, (before, after, base))
        # Guarantee [9], and what the carried code itself tells of it.
        self.assertIs(ask(self, back_again, before, after, base), exact, (before, after, base))
        self.assertIs(oracle.do_same(carried(base, made, before), after), exact)
        self.assertTrue(do_same(ask(self, over, before, base, after), made))
        return made, is_left, exact

    def test_the_example(self):
        told = [do_same(carried(START, LEFT, NEAR), code("if a b tell c tell b")), is_exact(START, LEFT, NEAR)]
        self.assertEqual(repr(told), "[True, True]")
        told = [is_exact(START, LEFT, code("tell c")), do_same(over(START, NEAR, RIGHT), over(START, RIGHT, NEAR)),
                left_world(START, LEFT, NEAR)]
        self.assertEqual(repr(told), "[False, True, None]")

    def test_kinds(self):
        for before, after, base, right, is_left, exact in CARRIED:
            made, *told = self.check(code(before), code(after), code(base))
            self.assertIs(do_same(made, code(right)), True, (before, after, base))
            self.assertEqual(told, [is_left, exact], (before, after, base))

    def test_neither_left_nor_exact(self):
        found = [row for row in CARRIED if not row[4] and not row[5]]
        self.assertGreater(len(found), 3)
        for before, after, base, _, _, _ in found:
            before, after, base = code(before), code(after), code(base)
            self.assertIsNone(left_world(before, after, base))
            self.assertIs(is_exact(before, after, base), False)
            self.assertIs(back_again(before, after, base), False)

    def test_one_code_for_several_arguments(self):
        for one, other in itertools.product([START, LEFT, RIGHT, NEAR, code("tell f(a)")], repeat=2):
            for row in [(one, one, one), (one, one, other), (one, other, one), (one, other, other)]:
                made, is_left, _ = self.check(*row)
                self.assertIs(is_left, False)
                self.assertIs(do_same(made, row[2] if row[1] == one else other), True, row)

    def test_over(self):
        for base, one, other, right in [
                ("tell a", "tell b", "tell c", "if a b tell c tell b"), ("tell a", "tell a", "tell c", "tell c"), ("tell a", "tell c", "tell a", "tell c"),
                ("tell a", "tell b", "tell b", "tell b"), ("tell a", "if b c tell b tell a", "if b c tell a tell c", "if b c tell b tell c"),
                ("tell a", "if a b tell c tell a", "if b c tell b tell a", "if a b tell c if b c tell b tell a")]:
            made = ask(self, over, code(base), code(one), code(other))
            self.assertIs(do_same(made, code(right)), True, (base, one, other))

    def test_changes_over_one_another(self):
        """Guarantee [9]: in either order they come to the same just if they do not quarrel."""
        found = {True: 0, False: 0}
        for chance, pool in random_pools(300):
            base, one, other = random_versions(chance, pool, 3)
            for first, second in [(one, other), (one, base), (one, one), (one, ("if", pool[0], pool[-1], other, one))]:
                same = do_same(over(base, first, second), over(base, second, first))
                self.assertIs(same, quarrels(base, [first, second]) == [], (base, first, second))
                self.assertIs(same, oracle.odd_pairs(base, [first, second]) == [])
                found[same] += 1
        self.assertGreater(min(found.values()), 15)

    def test_at_random(self):
        found = {}
        for chance, pool in random_pools(250):
            three = random_versions(chance, pool, 3) if chance.random() < 0.7 else [random_code(chance, pool, 2) for _ in range(3)]
            _, is_left, exact = self.check(*chance.sample(three, 3))
            found[is_left, exact] = found.get((is_left, exact), 0) + 1
        self.assertEqual({*found}, {(True, False), (False, True), (False, False)})
        self.assertGreater(min(found.values()), 10)

    def test_what_was_asked_ahead_changes_nothing(self):
        rows = [[code(text) for text in row[:3]] for row in CARRIED]
        first = [repr([carried(*row), left_world(*row), over(*row)]) for row in rows]
        self.assertEqual([repr([carried(*row), left_world(*row), over(*row)]) for row in rows[::-1]], first[::-1])


if __name__ == "__main__":
    unittest.main()
