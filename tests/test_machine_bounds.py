"""Machines at the bounds of [4], and beyond, each answered within a moment, and rightly."""

import unittest

import oracle
from bounds import QuickTest
from helpers import chances, random_rules

from answerskept.errors import QuarrelRow
from answerskept.keptmachines import calm, kept_machine, losing_row, quarrel_row, settled_machine, wanted_at
from answerskept.machines import Machine, are_pairs, folded, pairs, parting_row, say_same


def turning_rules(chance, states=6, inputs="uvw", outputs="xy"):
    """Rules by each of whose inputs the states are turned about."""
    rules = [{} for _ in range(states)]
    for name in inputs:
        for state, later in enumerate(chance.sample(range(states), states)):
            rules[state][name] = (later, chance.choice(outputs))
    return rules


def told_rules(chance, told):
    """Rules by which the states are turned about, and each state says what told makes of it and of an input."""
    rules = turning_rules(chance)
    return [{name: (later, told(state, name)) for name, (later, _) in rule.items()} for state, rule in enumerate(rules)]


def slow_rules(inputs="uvw"):
    """Six states of which two are told apart by a row of many inputs only."""
    return [{name: ((state + (name == "u")) if state < 5 else 0, "y" if state == 5 else "x") for name in inputs} for state in range(6)]


def cases():
    for seed in range(40):
        chance = chances(seed)
        make = [turning_rules, lambda each: random_rules(each, 6, "uvw"), lambda each: slow_rules()][seed % 3]
        one = make(chance)
        order = [0] + chance.sample(range(1, 6), 5)
        other = [None] * 6
        for state, rule in enumerate(one):
            other[order[state]] = {name: (order[later], output) for name, (later, output) in rule.items()}
        if seed % 2:
            later, output = other[5]["w"]
            other[5]["w"] = (later, "z" if seed % 4 == 1 else output)
        if seed % 5 == 0:
            other = make(chance)
        yield chance, one, other


class MachineBoundsTest(QuickTest):
    def test_two_machines(self):
        counts = {True: 0, False: 0}
        for chance, one, other in cases():
            first, second = Machine(["u", "v", "w"], one), Machine(("w", "v", "u"), other)
            shortest = oracle.parting_lengths(one, other).get((0, 0))
            row = self.quick(parting_row, first, second)
            self.assertEqual(row and len(row), shortest)
            self.assertIs(self.quick(say_same, first, second), shortest is None)
            found = self.quick(pairs, first, second)
            self.assertEqual(found, oracle.pairs(one, other))
            self.assertIs(self.quick(are_pairs, first, second, found), shortest is None)
            every = [(state, later) for state in range(6) for later in range(6)]
            self.assertIs(self.quick(are_pairs, first, second, every), oracle.are_pairs(one, other, every))
            self.assertEqual(self.quick(folded, first).rules(), oracle.folded(one))
            counts[shortest is None] += 1
            row = [chance.choice("uvw") for _ in range(500)]
            self.assertEqual((self.quick(first.said, row), self.quick(first.state_behind, row)),
                             (oracle.said(one, row), oracle.state_behind(one, row)))
        self.assertGreater(min(counts.values()), 5)

    def test_a_thousand_states(self):
        """What other calls return may be larger than six states: they are folded within a moment, too."""
        for many in (1000, 2000):
            ring = [{"u": ((state + 1) % many, "x"), "v": (state // 2, "x")} for state in range(many)]
            made = Machine(["u", "v"], ring)
            self.assertEqual(len(self.quick(folded, made)), 1)
            ring[-1]["u"] = (0, "y")
            made = Machine(["u", "v"], ring)
            told = self.quick(folded, made)
            self.assertEqual(len(told), many)
            self.assertIs(self.quick(say_same, made, told), True)

    def test_five_afters(self):
        """All six machines are turned about by each input: tens of thousands of states are met together."""
        kinds = {
            "calm": (lambda chance: lambda state, name: "x", lambda chance: lambda state, name: "y" if state == 0 else "x"),
            "odd": (lambda chance: lambda state, name: chance.choice(("x", "xx")), lambda chance: lambda state, name: chance.choice("xyz")),
            "late": (lambda chance: lambda state, name: "x", lambda chance: lambda state, name: chance.choice("yz") if (state, name) == (5, "w") else "x")}
        for seed, (of_base, of_after) in enumerate(kinds.values()):
            chance = chances(seed)
            base = told_rules(chance, of_base(chance))
            afters = [told_rules(chance, of_after(chance)) for _ in range(5)]
            self.check_afters(chance, base, afters)

    def check_afters(self, chance, base, afters):
        names = ["u", "v", "w"]
        start, them = Machine(names, base), [Machine(names, after) for after in afters]
        machines = [base] + afters
        rows = [[chance.choice(names) for _ in range(chance.randint(1, 60))] for _ in range(200)]
        told = [oracle.last_outputs(machines, row) for row in rows]
        wanted = [oracle.wanted_output(outputs[0], outputs[1:]) for outputs in told]
        for row, right in zip(rows[:20], wanted):
            self.assertEqual(self.quick(wanted_at, start, them, row), right)
        row = self.quick(quarrel_row, start, them)
        self.assertIs(self.quick(calm, start, them, []), row is None)
        self.assertIs(self.quick(calm, start, them, rows[0]), row is None)
        if row is None:
            self.assertNotIn(None, wanted)
            made = self.quick(kept_machine, start, them)
            self.assertEqual([made.said(row)[-1] for row in rows], wanted)
            self.assertIsNone(self.quick(losing_row, start, them, made))
        else:
            self.assertRaises(QuarrelRow, kept_machine, start, them)
            outputs = oracle.last_outputs(machines, row)
            self.assertIsNone(oracle.wanted_output(outputs[0], outputs[1:]))
        order = tuple(chance.sample(range(5), 5))
        made = self.quick(settled_machine, start, them, order)
        self.assertEqual([made.said(row)[-1] for row in rows],
                         [oracle.settled_output(outputs[0], outputs[1:], order) for outputs in told])
        for other in [start] + them[:2] + [made]:
            row = self.quick(losing_row, start, them, other)
            if row is not None:
                outputs = oracle.last_outputs(machines, row)
                self.assertNotIn(oracle.wanted_output(outputs[0], outputs[1:]), (None, other.said(row)[-1]))


if __name__ == "__main__":
    unittest.main()
