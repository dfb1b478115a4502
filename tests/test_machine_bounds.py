"""Machines at the bounds of [4], and beyond, each answered within a moment, and rightly."""

import unittest

import oracle
from bounds import QuickTest
from helpers import chances, random_rules

from answerskept.machines import Machine, are_pairs, folded, pairs, parting_row, say_same


def turning_rules(chance, states=6, inputs="uvw", outputs="xy"):
    """Rules by each of whose inputs the states are turned about."""
    rules = [{} for _ in range(states)]
    for name in inputs:
        for state, later in enumerate(chance.sample(range(states), states)):
            rules[state][name] = (later, chance.choice(outputs))
    return rules


def slow_rules(inputs="uvw"):
    """Six states of which two are told apart by a row of many inputs only."""
    return [{name: ((state + (name == "u")) if state < 5 else 0, "y" if state == 5 else "x") for name in inputs} for state in range(6)]


def cases():
    for seed in range(40):
        chance = chances(seed)
        make = [turning_rules, lambda each: random_rules(each, 6, "uvw"), lambda each: slow_rules()][seed % 3]
        one = make(chance)
        order = [0] + chance.sample(range(1, 6), 5)
        other = [None] * 6
        for state, rule in enumerate(one):
            other[order[state]] = {name: (order[later], output) for name, (later, output) in rule.items()}
        if seed % 2:
            later, output = other[5]["w"]
            other[5]["w"] = (later, "z" if seed % 4 == 1 else output)
        if seed % 5 == 0:
            other = make(chance)
        yield chance, one, other


class MachineBoundsTest(QuickTest):
    def test_two_machines(self):
        counts = {True: 0, False: 0}
        for chance, one, other in cases():
            first, second = Machine(["u", "v", "w"], one), Machine(("w", "v", "u"), other)
            shortest = oracle.parting_lengths(one, other).get((0, 0))
            row = self.quick(parting_row, first, second)
            self.assertEqual(row and len(row), shortest)
            self.assertIs(self.quick(say_same, first, second), shortest is None)
            found = self.quick(pairs, first, second)
            self.assertEqual(found, oracle.pairs(one, other))
            self.assertIs(self.quick(are_pairs, first, second, found), shortest is None)
            every = [(state, later) for state in range(6) for later in range(6)]
            self.assertIs(self.quick(are_pairs, first, second, every), oracle.are_pairs(one, other, every))
            self.assertEqual(self.quick(folded, first).rules(), oracle.folded(one))
            counts[shortest is None] += 1
            row = [chance.choice("uvw") for _ in range(500)]
            self.assertEqual((self.quick(first.said, row), self.quick(first.state_behind, row)),
                             (oracle.said(one, row), oracle.state_behind(one, row)))
        self.assertGreater(min(counts.values()), 5)

    def test_a_thousand_states(self):
        """What other calls return may be larger than six states: they are folded within a moment, too."""
        for many in (1000, 2000):
            ring = [{"u": ((state + 1) % many, "x"), "v": (state // 2, "x")} for state in range(many)]
            made = Machine(["u", "v"], ring)
            self.assertEqual(len(self.quick(folded, made)), 1)
            ring[-1]["u"] = (0, "y")
            made = Machine(["u", "v"], ring)
            told = self.quick(folded, made)
            self.assertEqual(len(told), many)
            self.assertIs(self.quick(say_same, made, told), True)


if __name__ == "__main__":
    unittest.main()
