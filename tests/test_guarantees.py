"""Promises [5], [7] and [2]: answers hang on shapes, doing the same means equal answers in all worlds,
and afters can be kept if each two of them can; and what holds over the whole program."""

import itertools
import unittest

import oracle
from helpers import chances, random_code, random_facts, random_rows, random_terms, term

from answerskept.changes import changes_in
from answerskept.codes import answer, asked, told_at, ways
from answerskept.errors import Quarrel, QuarrelRow
from answerskept.keeping import kept, keeps, quarrel_world, wanted
from answerskept.keptmachines import calm, kept_machine, losing_row, quarrel_row, settled_machine, wanted_at
from answerskept.machines import Machine
from answerskept.many import quarrels
from answerskept.sameness import do_same
from answerskept.settling import settled
from answerskept.shapes import is_shape, shape, shapes, world_of
from answerskept.worlds import all_hold, worth


def random_world(chance, pool):
    world = {}
    for each in pool:
        for _ in range(4):
            world[(each[0],) + tuple(chance.randint(0, 3) for _ in each[1:])] = chance.randint(0, 3)
    return world


class GuaranteesTest(unittest.TestCase):
    def test_each_shape_is_one_of_some_world(self):
        for seed in range(40):
            pool = oracle.closed(random_terms(chances(seed), 5))[:7]
            if pool == oracle.closed(pool):
                for each in shapes(pool):
                    self.assertEqual(shape(pool, world_of(each)), each)

    def test_shapes_of_worlds_are_shapes(self):
        for seed in range(100):
            chance = chances(seed)
            pool = oracle.closed(random_terms(chance, 5))
            self.assertTrue(is_shape(pool, shape(pool, random_world(chance, pool))))

    def test_what_is_told_hangs_on_the_shape(self):
        for seed in range(150):
            chance = chances(seed)
            pool = oracle.closed(random_terms(chance, 5))
            each, world = random_code(chance, pool, 4), random_world(chance, pool)
            told = told_at(each, shape(pool, world))
            self.assertEqual(answer(each, world), worth(told, world))
            twin = world_of(shape(pool, world))
            self.assertEqual(answer(each, twin), worth(told, twin))
            for fact in random_facts(chance, pool, 4):
                self.assertEqual(all_hold([fact], world), all_hold([fact], twin))

    def test_whether_a_guard_holds_hangs_on_the_shape(self):
        for seed in range(100):
            chance = chances(seed)
            pool = oracle.closed(random_terms(chance, 5))
            guard = random_code(chance, pool, 4, [("yes",), ("no",)])
            world = random_world(chance, pool)
            twin = world_of(shape(pool, world))
            self.assertEqual([end for row, end in ways(guard) if all_hold(list(row), world)],
                             [end for row, end in ways(guard) if all_hold(list(row), twin)])

    def test_equal_answers_in_all_small_worlds(self):
        """Codes of three things and f(a), in all worlds over four worths: these have all shapes."""
        pool = [("a",), ("b",), ("c",), term("f(a)")]
        keys = [("a",), ("b",), ("c",)] + [("f", number) for number in range(4)]
        rows = itertools.product(range(4), repeat=7)
        worlds = [dict(zip(keys, row)) for row in rows if row[0] < 2 and row[5:] == (0, 1)]
        for seed in range(40):
            chance = chances(seed)
            one, other = random_code(chance, pool, 3), random_code(chance, pool, 3)
            if set(asked([one, other])) <= set(pool):
                same = all(answer(one, world) == answer(other, world) for world in worlds)
                self.assertIs(do_same(one, other), same, (one, other))

    def test_any_number_can_be_kept_if_each_two_can(self):
        found = {True: 0, False: 0}
        for _, _, base, afters in random_rows(300):
            pairs = list(itertools.combinations(range(len(afters)), 2))
            each_two = all(self.can_be_kept(base, [afters[one], afters[other]]) for one, other in pairs)
            self.assertIs(self.can_be_kept(base, afters), each_two, (base, afters))
            self.assertIs(quarrels(base, afters) == [], each_two)
            self.assertIs(oracle.can_be_kept(base, afters), each_two)
            found[each_two] += len(afters) > 2
        self.assertGreater(min(found.values()), 30)

    def can_be_kept(self, base, afters):
        """Whether there is a code that keeps afters, by all that the package tells of it."""
        try:
            made = kept(base, afters)
        except Quarrel:
            self.assertIsNotNone(quarrel_world(base, afters))
            for each in afters + [base]:
                self.assertIs(keeps(base, afters, each), False)
            return False
        self.assertIsNone(quarrel_world(base, afters))
        self.assertIs(keeps(base, afters, made), True)
        return True

    def test_two_can_be_kept_unless_they_change_the_base_and_are_unlike(self):
        for _, _, base, afters in random_rows(120):
            for one, other in itertools.combinations(afters, 2):
                worlds = oracle.worlds_of(base, one, other)
                odd = [world for world in worlds if changes_in(base, one, world) and changes_in(base, other, world)
                       and answer(one, world) != answer(other, world)]
                self.assertIs(self.can_be_kept(base, [one, other]), not odd)
                for world in worlds:
                    self.assertIs(wanted(base, [one, other], world) is None, world in odd)

    def test_all_codes_that_keep_them_do_the_same(self):
        found = 0
        for chance, pool, base, afters in random_rows(200):
            if quarrels(base, afters):
                continue
            made = kept(base, afters)
            order = tuple(chance.sample(range(len(afters)), len(afters)))
            for each in afters + [base, settled(base, afters, order), kept(base, afters[::-1]), random_code(chance, pool, 2),
                                  ("if", pool[0], pool[-1], afters[0], made)]:
                self.assertIs(keeps(base, afters, each), do_same(each, made), (base, afters, each))
                found += keeps(base, afters, each) and each != made
        self.assertGreater(found, 100)

    def test_machines_that_say_the_answers_of_codes(self):
        """Each input stands for a world: the machines are kept and settled as the codes are in these worlds."""
        found = {True: 0, False: 0}
        for chance, pool, base, afters in random_rows(200):
            worlds = oracle.worlds_of(base, *afters)
            rows = dict(zip("uvw", chance.sample(worlds, min(3, len(worlds)))))

            def machine_of(code):
                return Machine(list(rows), [{name: (0, "abcdefgh"[answer(code, world)]) for name, world in rows.items()}])

            start, them = machine_of(base), [machine_of(after) for after in afters]
            goals = {name: wanted(base, afters, world) for name, world in rows.items()}
            right = {name: goal if goal is None else "abcdefgh"[goal] for name, goal in goals.items()}
            for name in rows:
                self.assertEqual(wanted_at(start, them, ["u", name]), right[name])
            peaceful = None not in right.values()
            self.assertIs(quarrel_row(start, them) is None, peaceful)
            self.assertIs(calm(start, them, ["u"]), peaceful)
            if peaceful:
                self.assertEqual(kept_machine(start, them).rules(), [{name: (0, right[name]) for name in rows}])
            else:
                self.assertRaises(QuarrelRow, kept_machine, start, them)
            order = tuple(chance.sample(range(len(afters)), len(afters)))
            made = settled(base, afters, order)
            self.assertIs(settled_machine(start, them, order) == machine_of(made), True)
            other = random_code(chance, pool, 2)
            lost = [name for name, world in rows.items() if goals[name] not in (None, answer(other, world))]
            self.assertEqual(losing_row(start, them, machine_of(other)) in [[name] for name in lost] if lost
                             else losing_row(start, them, machine_of(other)) is None, True)
            found[peaceful] += 1
        self.assertGreater(min(found.values()), 10)


if __name__ == "__main__":
    unittest.main()
