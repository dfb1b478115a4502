"""Programs, guards and changes at the bounds of [4], each answered within a moment, and rightly."""

import unittest

import oracle
from bounds import SEVENS, SIXES, QuickTest, large_code, thirty_keys
from helpers import chances, functions_of, terms

from answerskept.changes import changes_in, common, is_idle, is_less, narrowed, where
from answerskept.errors import TooMany
from answerskept.guards import (both, can, either, fewest_tests, guard_holds, guard_world, opposite, same_guard, shallow,
                                within)
from answerskept.places import edited, is_edit, least_edits, part_at, places
from answerskept.programs import Program, is_long
from answerskept.whole import ran, whole

ENDS = [("yes",), ("no",)]
FIVE = terms("a b c d e")
# A term of five things and two works: seven asked terms in all, as five givens leave room for.
POOL = FIVE + terms("f(a) g(b,c)")


def wide_functions(chance, pool, first, last):
    """Four functions of five givens, each going on as the next, with whole codes of first times last ways."""
    names = [each[0] for each in FIVE]
    things = tuple(FIVE)
    begun = large_code(chance, pool, first)
    return {
        "p": (names, ("with", "x", ("go", "q", things), ("if", ("x",), ("a",), ("go", "s", things), ("go", "s", things)))),
        "q": (tuple(names), begun), "r": (names, ("go", "s", things)), "s": (names, large_code(chance, pool, last))}


class ProgramBoundsTest(QuickTest):
    def test_whole_codes_of_forty_ways(self):
        for seed in range(4):
            chance = chances(seed)
            rows = wide_functions(chance, POOL, 5, 4)
            made = Program(rows)
            self.assertEqual(len(oracle.ways(oracle.whole(rows, "p"))), 40)
            for name in rows:
                told = self.quick(whole, made, name)
                self.assertEqual(told, oracle.whole(rows, name))
                for _ in range(5):
                    world = thirty_keys(chance, POOL)
                    self.assertEqual(self.quick(ran, made, name, world), oracle.answer(told, world))
                self.assertEqual(self.quick(places, made, name), sorted(oracle.places_of(rows[name][1])))
                self.assertIs(self.quick(is_long, made.code(name)), True)
                self.assertEqual(self.quick(made.reaches, name), {"p": ["q", "s"], "q": [], "r": ["s"], "s": []}[name])

    def test_six_edits_of_forty_ways(self):
        for seed in range(4):
            chance = chances(seed)
            rows = wide_functions(chance, POOL, 5, 4)
            made = Program(rows)
            edits = []
            while len(edits) < 6:
                name = chance.choice("qs")
                place = chance.choice(sorted(oracle.places_of(rows[name][1])))
                edit = (name, place, chance.choice(FIVE))
                if oracle.is_term(part_at(made, name, place)) and not any(oracle.begins(edit, other) for other in edits):
                    edits.append(edit)
            self.assertTrue(all(self.quick(is_edit, made, edit) for edit in edits))
            told = self.quick(edited, made, edits)
            self.assertEqual(functions_of(told), functions_of(Program(oracle.edited(rows, edits))))
            self.assertEqual(self.quick(whole, told, "p"), oracle.whole(functions_of(told), "p"))

    def test_least_edits_of_twelve_ways(self):
        """Six edits, whole codes of twelve ways, and six asked terms; what they are is told within a moment."""
        some = 0
        for seed in range(6):
            chance = chances(seed)
            pool = terms("a b c d e f(a)") if seed % 2 else terms("a b c d f(a) f(b)")
            rows = wide_functions(chance, pool, 3, 2)
            self.assertEqual(len(oracle.ways(oracle.whole(rows, "p"))), 12)
            spots = [("q", place) for place in sorted(oracle.places_of(rows["q"][1])) if place and place[-1] in (1, 2)]
            spots += [("s", place) for place in sorted(oracle.places_of(rows["s"][1])) if place and place[-1] in (1, 2)]
            edits = []
            for name, place in chance.sample(spots, len(spots)):
                edit = (name, place, chance.choice(pool))
                if len(edits) < 6 and not any(oracle.begins(edit, other) for other in edits):
                    edits.append(edit)
            self.assertEqual(len(edits), 6)
            told = self.quick(least_edits, Program(rows), edits, "p")
            self.assertEqual(told, oracle.least_edits(rows, edits, "p"))
            some += told != [()]
        self.assertGreater(some, 2)


class GuardBoundsTest(QuickTest):
    def test_guards_of_sixteen_ways(self):
        for seed in range(6):
            chance = chances(seed)
            pool = SEVENS[seed % len(SEVENS)]
            one, other = (large_code(chance, pool, ends=ENDS) for _ in range(2))
            rows = [(world, oracle.guard_holds(one, world), oracle.guard_holds(other, world)) for world in oracle.worlds(pool)]
            self.check(self.quick(both, one, other), [(world, first and second) for world, first, second in rows])
            self.check(self.quick(either, one, other), [(world, first or second) for world, first, second in rows])
            self.check(self.quick(opposite, one), [(world, not first) for world, first, _ in rows])
            self.assertIs(self.quick(same_guard, one, other), all(first == second for _, first, second in rows))
            self.assertIs(self.quick(within, one, other), all(second for _, first, second in rows if first))
            self.assertIs(self.quick(within, both(one, other), one), True)
            self.assertIs(self.quick(same_guard, opposite(both(one, other)), either(opposite(one), opposite(other))), True)
            self.assertIs(self.quick(can, one), any(first for _, first, _ in rows))
            world = self.quick(guard_world, one)
            self.assertTrue(world is None or oracle.guard_holds(one, world))
            world = thirty_keys(chance, pool)
            self.assertIs(self.quick(guard_holds, one, world), oracle.guard_holds(one, world))

    def check(self, made, rows):
        for world, right in rows:
            self.assertIs(oracle.guard_holds(made, world), right)

    def test_fewest_tests_of_five_terms(self):
        for seed, pool in enumerate([FIVE, terms("a b c f(a) f(b)"), terms("a b f(a) f(b) g(a,b)"), FIVE]):
            guard = large_code(chances(seed), pool, ends=ENDS)
            right = oracle.fewest_tests(guard)
            self.assertEqual(self.quick(fewest_tests, guard), right)
            made = self.quick(shallow, guard)
            self.assertEqual(max(len(facts) for facts, _ in oracle.ways(made)), right)
            self.check(made, [(world, oracle.guard_holds(guard, world)) for world in oracle.worlds(pool)])

    def test_six_terms_are_too_many(self):
        for seed, pool in enumerate(SIXES):
            guard = large_code(chances(seed), pool, ends=ENDS)
            for call in (fewest_tests, shallow):
                with self.assertRaises(TooMany):
                    call(guard)


class ChangeBoundsTest(QuickTest):
    def test_codes_of_sixteen_ways(self):
        for seed in range(6):
            chance = chances(seed)
            pool = SEVENS[seed % len(SEVENS)]
            base, one, other = (large_code(chance, pool) for _ in range(3))
            guard = large_code(chance, pool, ends=ENDS)
            rows = [(world, oracle.guard_holds(guard, world)) + tuple(oracle.answer(each, world) for each in (base, one, other))
                    for world in oracle.worlds(pool)]
            changed, held, shared = (self.quick(where, base, one), self.quick(narrowed, base, one, guard),
                                     self.quick(common, base, one, other))
            for world, holding, start, first, second in rows:
                self.assertIs(oracle.guard_holds(changed, world), first != start)
                self.assertEqual(oracle.answer(held, world), first if holding else start)
                self.assertEqual(oracle.answer(shared, world), first if first == second else start)
            self.assertIs(self.quick(is_idle, base, one), all(row[2] == row[3] for row in rows))
            self.assertIs(self.quick(is_less, base, one, other), all(row[3] in (row[2], row[4]) for row in rows))
            for less in (held, shared):
                self.assertIs(self.quick(is_less, base, less, one), True)
            world = thirty_keys(chance, pool)
            self.assertIs(self.quick(changes_in, base, one, world), oracle.answer(base, world) != oracle.answer(one, world))


if __name__ == "__main__":
    unittest.main()
