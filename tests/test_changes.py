"""Promises [61], and of [2] to [4] what they say of changes."""

import itertools
import unittest

import oracle
from helpers import ask, chances, code, random_code, random_terms

from answerskept.changes import changes_in, common, is_idle, is_less, narrowed, where
from answerskept.forms import is_code, is_guard
from answerskept.guards import fewest_tests, same_guard
from answerskept.sameness import do_same

ENDS = [("yes",), ("no",)]
WORLD = {("a",): 1, ("b",): 1, ("c",): 4, ("f", 1): 2}
START, LEFT, RIGHT = code("tell a"), code("tell b"), code("if b c tell b tell a")

# A base, two afters, and whether the first is less than the other, and the other way round.
LESS = [
    ("tell a", "tell b", "tell b", True, True), ("tell a", "if b c tell b tell a", "tell b", True, False),
    ("tell a", "tell a", "tell b", True, False), ("tell a", "if a b tell a tell a", "tell c", True, False),
    ("tell a", "tell a", "if b c tell a tell a", True, True), ("tell a", "if a b tell b tell a", "tell a", True, True),
    ("tell a", "tell b", "tell c", False, False), ("tell a", "if b c tell b tell a", "if b c tell a tell b", False, False),
    ("tell a", "if a b tell c tell a", "if b a tell c tell d", True, False), ("tell f(a)", "if a b tell f(b) tell f(a)", "tell f(b)", True, False),
    ("tell f(a)", "tell f(b)", "if a b tell c tell f(b)", True, False), ("tell a", "if c d tell b tell a", "if d c tell b tell c", True, False),
    ("tell a", "if c d tell b tell a", "if d c tell c tell c", False, False), ("if a b tell c tell d", "tell c", "tell d", False, False),
    ("if a b tell c tell d", "if a b tell c tell c", "tell c", True, True), ("if a b tell c tell d", "if a c tell c tell d", "tell c", False, False),
    ("tell a", "if b c tell b tell a", "if b c tell c tell d", True, False), ("tell a", "tell f(a)", "if a b tell f(b) tell f(a)", True, True)]


def rows_of_codes(count=160):
    """A base and two afters over a few terms, with afters that change it a little among them."""
    for seed in range(count):
        chance = chances(seed)
        pool = oracle.closed(random_terms(chance, 4))
        if len(pool) <= 5:
            base, one, other = (random_code(chance, pool, 2) for _ in range(3))
            yield chance, pool, base, one, other
            narrow = ("if", chance.choice(pool), chance.choice(pool), one, base)
            yield chance, pool, base, narrow, one
            yield chance, pool, base, narrow, ("if", chance.choice(pool), chance.choice(pool), other, one)


class ChangesTest(unittest.TestCase):
    def test_the_example(self):
        alike_bc = code("if b c yes no")
        told = [same_guard(where(START, LEFT), code("if a b no yes")), fewest_tests(where(START, RIGHT))]
        self.assertEqual(repr(told), "[True, 2]")
        told = [is_less(START, RIGHT, LEFT), do_same(narrowed(START, LEFT, alike_bc), RIGHT),
                do_same(common(START, LEFT, RIGHT), RIGHT)]
        self.assertEqual(repr(told), "[True, True, True]")
        self.assertIs(changes_in(START, RIGHT, WORLD), False)

    def test_changes_in(self):
        for base, after, told in [
                ("tell a", "tell b", False), ("tell a", "tell c", True), ("tell a", "tell f(a)", True), ("tell f(a)", "tell f(b)", False),
                ("tell a", "if a b tell c tell a", True), ("tell a", "if a c tell c tell a", False), ("tell x", "tell y", False),
                ("if a b tell c tell a", "tell c", False), ("if a b tell c tell a", "tell a", True), ("tell x", "tell a", True)]:
            self.assertIs(ask(self, changes_in, code(base), code(after), WORLD), told, (base, after))
            self.assertIs(ask(self, changes_in, code(after), code(base), WORLD), told, (base, after))

    def check_guard(self, made, right, *codes):
        self.assertTrue(is_guard(made), made)
        for world in oracle.worlds([each for one in codes + (made,) for each in oracle.code_terms(one)]):
            self.assertIs(oracle.guard_holds(made, world), right(world), (made, codes, world))

    def check_code(self, made, right, *codes):
        self.assertTrue(is_code(made), made)
        for world in oracle.worlds([each for one in codes + (made,) for each in oracle.code_terms(one)]):
            self.assertEqual(oracle.answer(made, world), right(world), (made, codes, world))

    def check_where(self, base, after):
        def changed(world):
            return oracle.answer(base, world) != oracle.answer(after, world)

        self.check_guard(ask(self, where, base, after), changed, base, after)
        idle = not any(changed(world) for world in oracle.worlds_of(base, after))
        self.assertIs(ask(self, is_idle, base, after), idle, (base, after))
        self.assertIs(is_idle(base, after), same_guard(where(base, after), ("no",)))
        for world in oracle.worlds_of(base, after)[:10]:
            self.assertIs(ask(self, changes_in, base, after, world), changed(world))
        return idle

    def test_where(self):
        for base, after, right in [
                ("tell a", "tell b", "if a b no yes"), ("tell a", "tell a", "no"), ("tell a", "if a b tell b tell a", "no"),
                ("tell a", "if b c tell b tell a", "if b c if a b no yes no"), ("tell f(a)", "tell f(b)", "if f(a) f(b) no yes"),
                ("if a b tell f(a) tell f(b)", "tell f(b)", "no"), ("if a b tell c tell d", "if a b tell d tell d", "if a b if c d no yes no")]:
            self.check_where(code(base), code(after))
            self.assertIs(same_guard(where(code(base), code(after)), code(right)), True, (base, after))

    def test_where_at_random(self):
        found = [0, 0]
        for chance, pool, base, one, other in rows_of_codes():
            found[self.check_where(base, one)] += 1
            found[self.check_where(base, ("if", chance.choice(pool), chance.choice(pool), base, base))] += 1
        self.assertGreater(min(found), 50)

    def test_idle_afters_in_other_words(self):
        for base, after in [("tell a", "if a b tell b tell a"), ("if a b tell c tell d", "if b a tell c tell d"),
                            ("if a b tell f(a) tell f(b)", "tell f(b)"), ("tell c", "if a a tell c tell b"),
                            ("if a b tell c tell d", "if a b if f(a) f(b) tell c tell b tell d")]:
            self.assertIs(self.check_where(code(base), code(after)), True, (base, after))

    def check_narrowed(self, base, after, guard):
        def right(world):
            return oracle.answer(after if oracle.guard_holds(guard, world) else base, world)

        self.check_code(ask(self, narrowed, base, after, guard), right, base, after, guard)

    def test_narrowed(self):
        for guard in ("yes", "no", "if a b yes no", "if a b no yes", "if a a yes no", "if a a no yes", "if b c if a b no yes no",
                      "if f(a) f(b) yes if a b yes no", "if x y no yes"):
            for base, after in (("tell a", "tell b"), ("tell a", "tell a"), ("if a b tell c tell a", "if b c tell a tell b")):
                self.check_narrowed(code(base), code(after), code(guard))
        self.assertIs(do_same(narrowed(START, LEFT, ("yes",)), LEFT), True)
        self.assertIs(do_same(narrowed(START, LEFT, ("no",)), START), True)

    def test_narrowed_at_random(self):
        for chance, pool, base, one, _ in rows_of_codes():
            self.check_narrowed(base, one, random_code(chance, pool, 3, ENDS))

    def check_less(self, base, one, other):
        rows = [[oracle.answer(each, world) for each in (base, one, other)] for world in oracle.worlds_of(base, one, other)]
        less = all(first == start or first == second for start, first, second in rows)
        self.assertIs(ask(self, is_less, base, one, other), less, (base, one, other))
        return less

    def check_common(self, base, one, other):
        def right(world):
            start, first, second = (oracle.answer(each, world) for each in (base, one, other))
            return first if first == second and first != start and second != start else start

        made = ask(self, common, base, one, other)
        self.check_code(made, right, base, one, other)
        self.assertIs(do_same(made, common(base, other, one)), True)
        self.assertIs(is_less(base, made, one), True)
        self.assertIs(is_less(base, made, other), True)
        return made

    def test_less(self):
        for base, one, other, there, back in LESS:
            self.assertIs(self.check_less(code(base), code(one), code(other)), there, (base, one, other))
            self.assertIs(self.check_less(code(base), code(other), code(one)), back, (base, one, other))
            self.check_common(code(base), code(one), code(other))

    def test_less_and_common_at_random(self):
        found = {}
        for chance, pool, base, one, other in rows_of_codes():
            kind = (self.check_less(base, one, other), self.check_less(base, other, one))
            found[kind] = found.get(kind, 0) + 1
            made = self.check_common(base, one, other)
            # Each after that is less than both is less than what is common to them.
            for third in (base, one, other, random_code(chance, pool, 2), ("if", pool[0], pool[-1], one, base)):
                if is_less(base, third, one) and is_less(base, third, other):
                    self.assertIs(is_less(base, third, made), True, (base, one, other, third))
        self.assertEqual(len(found), 4)
        self.assertGreater(min(found.values()), 5)

    def test_common_of_one_that_is_less(self):
        for base, one, other, there, _ in LESS:
            if there:
                self.assertIs(do_same(common(code(base), code(one), code(other)), code(one)), True, (base, one, other))

    def test_common_where_the_one_answer_is_the_base_s(self):
        made = common(code("tell a"), code("if b c tell a tell b"), code("if b d tell a tell b"))
        self.check_common(code("tell a"), code("if b c tell a tell b"), code("if b d tell a tell b"))
        self.assertIs(do_same(made, code("if b c tell a if b d tell a tell b")), True)

    def test_what_was_asked_ahead_changes_nothing(self):
        rows = [(code(base), code(one), code(other)) for base, one, other, _, _ in LESS]
        calls = [lambda row: common(*row), lambda row: is_less(*row), lambda row: where(*row[:2]), lambda row: is_idle(*row[:2])]
        first = [repr(call(row)) for row, call in itertools.product(rows, calls)]
        second = [repr(call(row)) for row, call in itertools.product(rows[::-1], calls)]
        self.assertEqual(sorted(first), sorted(second))
        self.assertEqual(first[:4], second[-4:])


if __name__ == "__main__":
    unittest.main()
