"""Promises [82], and of [2] what it says of lots of steps."""

import itertools
import unittest

import oracle
from helpers import ask, code, random_pools, random_versions

from answerskept.codes import answer
from answerskept.forms import is_code
from answerskept.sameness import do_same
from answerskept.versions import can_turn, hangs, idle_steps, turns, without

START, LEFT, LAST = code("tell a"), code("tell b"), code("tell c")
ROW = [START, LEFT, code("if a b tell b tell b"), LAST]
OTHER = {("a",): 1, ("b",): 2, ("c",): 3}


def codes(*texts):
    return [code(text) for text in texts]


class VersionsTest(unittest.TestCase):
    def check(self, versions, world):
        """What all functions tell of versions, with all lots of their steps."""
        steps = oracle.steps_but(versions)
        right = [step for step in steps if oracle.answer(versions[step], world) != oracle.answer(versions[step - 1], world)]
        self.assertEqual(ask(self, turns, versions, world), right, (versions, world))
        right = [step for step in steps if oracle.do_same(versions[step], versions[step - 1])]
        self.assertEqual(ask(self, idle_steps, versions), right, versions)
        lots = ask(self, hangs, versions, world)
        self.assertEqual(lots, oracle.hangs(versions, world), (versions, world))
        for size in range(len(versions)):
            for lot in itertools.combinations(steps, size):
                self.check_without(versions, lot)
        for step in steps[:-1]:
            self.assertIs(ask(self, can_turn, versions, step), oracle.can_turn(versions, step), (versions, step))
        return lots

    def check_without(self, versions, lot):
        made = ask(self, without, versions, lot)
        self.assertTrue(is_code(made))
        for world in oracle.worlds_of(made, *versions):
            right = oracle.led_by(versions, oracle.steps_but(versions, lot), world)
            self.assertEqual(oracle.answer(made, world), right, (versions, lot))

    def test_the_example(self):
        told = [turns(ROW, OTHER), idle_steps(ROW), hangs(ROW, OTHER)]
        self.assertEqual(repr(told), "[[1, 3], [2], [(1,), (3,)]]")
        told = [do_same(without(ROW, (3,)), LEFT), do_same(without(ROW, (1,)), code("if a b tell c tell a")), can_turn(ROW, 1), can_turn(ROW, 2)]
        self.assertEqual(repr(told), "[True, True, True, True]")
        self.check(ROW, OTHER)

    def test_turns(self):
        for versions, world, told in [
                ([START, LEFT], OTHER, [1]), ([START, LEFT], {}, []), ([START, START], OTHER, []), ([START, LEFT, START], OTHER, [1, 2]),
                (ROW, {("a",): 1, ("b",): 1, ("c",): 2}, [3]), (ROW, {("a",): 2, ("b",): 1, ("c",): 1}, [1]),
                (codes("tell f(a)", "tell f(b)", "tell f(c)"), {("b",): 1, ("f", 1): 3}, [1, 2]), (codes("tell a", "if x y tell a tell b"), OTHER, [])]:
            self.assertEqual(ask(self, turns, versions, world), told, (versions, world))
            self.check(versions, world)

    def test_idle_steps(self):
        for versions, told in [
                ([START, LEFT], []), ([START, START], [1]), ([START, START, START], [1, 2]), ([START, LEFT, START], []),
                (codes("tell a", "if a b tell b tell a", "if b a tell b tell a", "tell b", "if f(a) f(b) tell b tell b"), [1, 2, 4]),
                (codes("tell f(a)", "if a b tell f(b) tell f(a)", "if a b tell f(b) tell f(b)"), [1])]:
            self.assertEqual(ask(self, idle_steps, versions), told, versions)

    def test_without(self):
        for versions, lot, right in [
                ([START, LEFT], (), "tell b"), ([START, LEFT], (1,), "tell a"), (ROW, (), "tell c"), (ROW, (1, 2, 3), "tell a"),
                (ROW, (2,), "tell c"), (ROW, (1, 2), "if a b tell c tell a"), (ROW, (2, 3), "tell b"),
                ([START, LEFT, START], (1,), "tell a"), ([START, LEFT, START], (2,), "tell b"), ([START, LEFT, START], (), "tell a"),
                (codes("tell a", "tell b", "tell c", "tell d"), (2,), "if b c tell d tell b"),
                (codes("tell a", "tell b", "tell c", "tell d"), (1,), "if a b tell d if a c tell d tell a"),
                (codes("tell a", "tell b", "tell c", "tell d"), (1, 2), "if a c tell d tell a"),
                (codes("tell a", "if b c tell b tell a", "if b c tell b tell c"), (1,), "if b c tell a tell c")]:
            self.assertIs(do_same(ask(self, without, versions, lot), code(right)), True, (versions, lot))
            self.check(versions, OTHER)

    def test_without_no_step_stands_the_last_version(self):
        for chance, pool in random_pools(60):
            versions = random_versions(chance, pool, chance.randint(2, 6))
            self.assertIs(do_same(without(versions, ()), versions[-1]), True)
            self.assertIs(do_same(without(versions, tuple(range(1, len(versions)))), versions[0]), True)

    def test_hangs(self):
        """On one step, on each of two, on none at all.

        On two together alone no answer hangs: without the last step that turns it, it is another one.
        """
        same = {("a",): 1, ("b",): 1, ("c",): 4}
        for versions, world, told in [
                ([START, LEFT], OTHER, [(1,)]), ([START, LEFT], same, []), (ROW, OTHER, [(1,), (3,)]), (ROW, same, [(3,)]),
                ([START, START], OTHER, []), ([START, LEFT, START], OTHER, [(2,)]), ([START, LEFT, START, LEFT], OTHER, [(3,)]),
                ([START, LEFT, START, LEFT], same, []), ([START, LEFT, START, LEFT, START, LEFT], OTHER, [(5,)]),
                ([START, LEFT, LAST, START], OTHER, [(2,), (3,)]), ([START, LEFT, LAST, START, LEFT], OTHER, [(3,), (4,)]),
                ([START, LEFT, LEFT, START, LAST], OTHER, [(3,), (4,)]), ([START, LEFT, LAST, code("tell d")], {**OTHER, ("d",): 4}, [(1,), (2,), (3,)]),
                (codes("tell a", "tell b", "tell a", "tell b", "tell c"), OTHER, [(3,), (4,)])]:
            self.assertEqual(oracle.hangs(versions, world), told, (versions, world))
            self.assertEqual(ask(self, hangs, versions, world), told, (versions, world))

    def test_without_the_last_turn_another_answer_stands(self):
        for chance, pool in random_pools(60, 4):
            versions = random_versions(chance, pool, 6)
            for world in oracle.worlds_of(*versions):
                told = turns(versions, world)
                self.assertEqual((told[-1],) in hangs(versions, world) if told else hangs(versions, world) == [], True)

    def test_can_turn(self):
        apart = codes("tell a", "if b c tell b tell a", "if b c tell b if b d tell d tell a")
        for versions, step, told in [
                ([START, LEFT, LAST], 1, False), ([START, LEFT, LEFT], 1, True), ([START, START, LEFT], 1, True), ([START, LEFT, START], 1, False),
                (ROW, 1, True), (ROW, 2, True), (apart, 1, True), (codes("tell a", "if b c tell d tell a", "if b d tell c if b c tell d tell a"), 1, True),
                (codes("tell a", "if b c tell d tell a", "if b c tell e tell a"), 1, False),
                (codes("tell a", "if b c tell d tell a", "if b c tell d tell d"), 1, True), ([START, LEFT, LAST, START], 1, False),
                ([START, LEFT, LAST, START], 2, False), ([START, START, START], 1, True), ([START, LEFT, START, LEFT, START], 2, True),
                ([START, LEFT, START, LEFT], 1, True), ([START, LEFT, LAST, LEFT], 1, True), ([START, LEFT, LAST, LAST], 2, True)]:
            self.assertIs(ask(self, can_turn, versions, step), told, (versions, step))
            self.check(versions, OTHER)

    def test_what_comes_behind_a_turn_counts(self):
        """The steps behind may hide that two were turned, or show it."""
        versions = [START, LEFT, START, LEFT]
        self.assertIs(can_turn(versions[:3], 1), False)
        self.assertIs(can_turn(versions, 1), True)
        self.assertIs(can_turn(versions + [LAST], 2), False)
        self.assertIs(can_turn([START, LEFT, LAST, LEFT], 1), True)
        self.assertIs(can_turn([START, LEFT, LAST], 1), False)

    def test_versions_that_stand_twice(self):
        for versions in itertools.product([START, LEFT, code("if b c tell a tell c")], repeat=3):
            self.check(list(versions), OTHER)

    def test_at_random(self):
        lots = {}
        for chance, pool in random_pools(90, 4):
            versions = random_versions(chance, pool, chance.randint(2, 5))
            worlds = oracle.worlds_of(*versions)
            many = len(self.check(versions, chance.choice(worlds)))
            lots[many] = lots.get(many, 0) + 1
        self.assertLessEqual({0, 1, 2}, {*lots}, lots)

    def test_all_lots_of_six_versions(self):
        found = 0
        for chance, pool in random_pools(30, 4):
            versions = random_versions(chance, pool, 6)
            for world in oracle.worlds_of(*versions):
                self.assertEqual(hangs(versions, world), oracle.hangs(versions, world))
            if found < 8:
                self.check(versions, chance.choice(oracle.worlds_of(*versions)))
            found += 1
        self.assertGreater(found, 8)

    def test_what_is_told_goes_together(self):
        for chance, pool in random_pools(60, 4):
            versions = random_versions(chance, pool, 4)
            for step in idle_steps(versions):
                self.assertIs(do_same(without(versions, (step,)), versions[-1]), True)
                if step < 3:
                    self.assertIs(can_turn(versions, step), True)
            for world in oracle.worlds_of(*versions):
                lots = hangs(versions, world)
                for lot in lots:
                    self.assertNotEqual(answer(without(versions, lot), world), answer(versions[-1], world))
                    self.assertLessEqual({*lot}, {*turns(versions, world)})
                if not lots:
                    self.assertEqual(answer(versions[0], world), answer(versions[-1], world))

    def test_what_was_asked_ahead_changes_nothing(self):
        every = [lot for size in range(4) for lot in itertools.combinations((1, 2, 3), size)]
        first = [repr([without(ROW, lot), hangs(ROW, OTHER), idle_steps(ROW)]) for lot in every]
        self.assertEqual([repr([without(ROW, lot), hangs(ROW, OTHER), idle_steps(ROW)]) for lot in every[::-1]], first[::-1])


if __name__ == "__main__":
    unittest.main()
