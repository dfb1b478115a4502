"""Promises [101], and [7], [8] as far as they are said of machines."""

import itertools
import unittest

import oracle
from helpers import ask, chances, machine, machine_rules, random_rules, seen

from answerskept.errors import QuarrelRow, Unlike
from answerskept.keptmachines import calm, kept_machine, losing_row, quarrel_row, settled_machine, wanted_at
from answerskept.machines import Machine, folded, say_same

STILL, FIRST, LATER = "u0x v0x", "u1y v1x / u1x v1x", "u1x v0x / u1x v1z"
# It says x, and behind two of u for ever w.
SLOW = "u1x v0x / u2x v1x / u2w v2w"


def made_of(rules):
    return Machine(list(rules[0]), rules)


def is_quarrel(outputs):
    return oracle.wanted_output(outputs[0], outputs[1:]) is None


def is_loss(outputs):
    return oracle.wanted_output(outputs[0], outputs[1:-1]) not in (None, outputs[-1])


def random_cases(seeds, states=3):
    """Rules of a base and of afters: any ones, or such as change the base at a few steps alone."""
    for seed in range(seeds):
        chance = chances(seed)
        names = "uv"[:chance.randint(1, 2)]
        base = random_rules(chance, chance.randint(1, states + 2), names, "xy" if seed % 3 else "x")
        afters = []
        for _ in range(chance.randint(1, 5)):
            new = random_rules(chance, chance.randint(1, states), names, "xy" if seed % 3 == 0 else "xz")
            other = [dict(rule) for rule in base]
            rule, name = other[-1] if seed % 2 else chance.choice(other), chance.choice(names)
            rule[name] = (rule[name][0], chance.choice("yzw"))
            afters.append(chance.choice([new if seed % 3 == 0 else other, base, other, other] + afters[:1]))
        yield chance, base, afters


class KeptMachinesTest(unittest.TestCase):
    def check_row(self, row, machines, is_goal):
        """That a row is a shortest one whose last outputs are a goal, or None if there is none."""
        many = oracle.shortest(machines, is_goal)
        self.assertEqual(row and len(row), many, (row, machines))
        if row is not None:
            self.assertIs(type(row), list)
            self.assertTrue(is_goal(oracle.last_outputs(machines, row)), (row, machines))
        return many

    def check_machine(self, told, machines, say):
        """That a Machine is folded, and says what say makes of the outputs of machines."""
        self.assertIs(type(told), Machine)
        self.assertTrue(oracle.says_as(machines, told.rules(), say), (machines, told.rules()))
        self.assertEqual(seen(folded(told)), seen(told))
        if len(told) <= 6:
            self.assertEqual(seen(oracle.folded(told.rules())), seen(told.rules()))

    def check(self, base, afters, other):
        """All that is told of a base and afters, and where another machine loses."""
        machines = [base] + afters
        start, them = made_of(base), [made_of(after) for after in afters]
        quarrel = ask(self, quarrel_row, start, them)
        many = self.check_row(quarrel, machines, is_quarrel)
        self.check_row(ask(self, losing_row, start, them, made_of(other)), machines + [other], is_loss)
        for row in oracle.rows(base[0], 3):
            right = oracle.wanted_output(*self.told_at(machines, row)) if row else None
            self.assertEqual(ask(self, wanted_at, start, them, row), right, (base, afters, row))
            self.assertIs(ask(self, calm, start, them, row), oracle.shortest(machines, is_quarrel, row) is None, (base, afters, row))
        if many is None:
            made = ask(self, kept_machine, start, them)
            self.check_machine(made, machines, lambda outputs: oracle.wanted_output(outputs[0], outputs[1:]))
            self.assertIsNone(losing_row(start, them, made))
        else:
            with self.assertRaises(QuarrelRow) as held:
                kept_machine(start, them)
            self.assertEqual(held.exception.row, quarrel)
        for order in list(itertools.permutations(range(len(afters))))[:6]:
            made = ask(self, settled_machine, start, them, order)
            self.check_machine(made, machines, lambda outputs, order=order: oracle.settled_output(outputs[0], outputs[1:], order))
        return many

    def told_at(self, machines, row):
        outputs = oracle.last_outputs(machines, row)
        return outputs[0], outputs[1:]

    def test_the_example(self):
        still, first, later = machine(STILL), machine(FIRST), machine(LATER)
        told = [quarrel_row(still, [first, later]), wanted_at(still, [first, later], ["u", "v"])]
        self.assertEqual(repr(told), "[None, 'z']")
        self.assertEqual(repr(kept_machine(still, [first, later]).rules()),
                         "[{'u': (1, 'y'), 'v': (2, 'x')}, {'u': (1, 'x'), 'v': (1, 'z')}, {'u': (1, 'x'), 'v': (2, 'x')}]")
        told = [losing_row(still, [first, later], first), calm(still, [first, later], [])]
        self.assertEqual(repr(told), "[['u', 'v'], True]")
        self.check(machine_rules(STILL), [machine_rules(FIRST), machine_rules(LATER)], machine_rules(FIRST))

    def test_kinds(self):
        """A base and afters, how many inputs it takes until they quarrel, and what is kept."""
        for base, afters, many, kept in [
                (STILL, [STILL], None, STILL), (STILL, [FIRST], None, FIRST), (STILL, [FIRST, FIRST], None, FIRST), (STILL, [STILL, LATER], None, LATER),
                (STILL, ["u0y v0x", "u0x v0y"], None, "u0y v0y"), (STILL, ["u0y v0x", "u0z v0x"], 1, None), (STILL, ["u0y v0x", "u0y v0z"], None, "u0y v0z"),
                (STILL, ["u0y v0x", "u1x v0x / u0y v0x", STILL], None, "u0y v0x"), (STILL, [SLOW, "u1x v0x / u1x v1z"], 3, None),
                (STILL, [SLOW, "u1x v1x / u2x v2x / u2w v2w"], None, "u1x v1x / u2x v2x / u2w v2w"),
                (STILL, [SLOW, "u1x v1x / u2x v2x / u3x v3x / u3z v3z"], 4, None), ("u0x", ["u1x / u2x / u0y", "u1x / u0z"], 6, None),
                ("u0x", ["u1x / u2x / u0y", "u1x / u2x / u3x / u4x / u5z / u5x"], None, "u1x / u2x / u3y / u4x / u5z / u6y / u7x / u8x / u6y"),
                ("u1x / u0y", ["u1x / u0z", "u1w / u0y"], None, "u1w / u0z"), ("u1x / u0y", ["u0x"], None, "u0x"), ("u1x / u0y", ["u0x", "u0y"], None, "u1y / u0x"),
                ("u1x / u0y", ["u0x", "u1x / u0z"], 2, None), ("u1x / u1x", ["u1x / u1x"], None, "u0x"), ("u0x / u0y", ["u0x / u1z"], None, "u0x")]:
            base, afters = machine_rules(base), [machine_rules(after) for after in afters]
            told = self.check(base, afters, base)
            self.assertEqual(told, many, (base, afters))
            if kept is not None:
                self.assertIs(say_same(kept_machine(made_of(base), [made_of(after) for after in afters]), machine(kept)), True, (base, afters))

    def test_afters_of_one_state_and_of_several(self):
        for one, other in itertools.product([STILL, FIRST, LATER, SLOW, "u0y v0x", "u0x v0z"], repeat=2):
            self.check(machine_rules(STILL), [machine_rules(one), machine_rules(other)], machine_rules(one))
            self.check(machine_rules(one), [machine_rules(other)], machine_rules(STILL))

    def test_rows_of_many_inputs(self):
        still, slow, other = machine(STILL), machine(SLOW), machine("u1x v1x / u2x v2x / u2w v2w")
        for row, told in [(["v"] * 200, "w"), (["u"] * 2, "x"), (["u"] * 3, "w"), (["v"] * 50 + ["u"] * 2, "w"), (["v"], "x")]:
            self.assertEqual(ask(self, wanted_at, still, [slow, other], row), told, row)
            self.assertIs(ask(self, calm, still, [slow, other], row), True)
        quarrel = [slow, machine("u1x v1x / u2x v2x / u2z v2z")]
        self.assertIsNone(wanted_at(still, quarrel, ["u"] * 90))
        self.assertIs(calm(still, quarrel, ["v"] * 90), False)

    def test_rows_of_none(self):
        """Nothing is said at the empty row."""
        self.assertIsNone(wanted_at(machine(STILL), [machine(FIRST)], []))
        self.assertIs(calm(machine(STILL), [machine(FIRST)], []), True)
        self.assertIs(calm(machine(STILL), [machine("u0y v0x"), machine("u0z v0x")], []), False)

    def test_calm(self):
        """Where they quarrel already and at no longer row; where they do so behind one input alone."""
        still = machine(STILL)
        ended = [machine("u1y v0x / u1x v1x"), machine("u1z v0x / u1x v1x")]
        for row, told in [([], False), (["u"], True), (["v"], False), (["v", "u"], True), (["u", "u"], True), (["v", "v", "u", "v"], True)]:
            self.assertIs(ask(self, calm, still, ended, row), told, row)
        self.assertIsNone(wanted_at(still, ended, ["u"]))
        self.assertEqual(wanted_at(still, ended, ["u", "u"]), "x")
        forever = [machine("u0y v0x"), machine("u0z v0x")]
        for row in oracle.rows("uv", 4):
            self.assertIs(calm(still, forever, row), False)

    def test_losing(self):
        """Machines that lose at once, behind a quarrel only, and nowhere."""
        still = machine(STILL)
        afters = [machine("u1y v0x / u1x v1x"), machine("u1z v0x / u1x v1x")]
        for other, row in [(STILL, None), ("u1w v0x / u1x v1x", None), ("u1y v0x / u1x v1y", ["u", "v"]), ("u0y v0y", ["v"]),
                           ("u1x v0x / u2x v2x / u2y v2x", ["u", "u", "u"]), ("u1x v1x / u1x v1x", None), ("u0q v0x", ["u", "u"]), ("u1q v0x / u1x v1x", None)]:
            told = ask(self, losing_row, still, afters, machine(other))
            self.check_row(told, [machine_rules(STILL)] + [each.rules() for each in afters] + [machine_rules(other)], is_loss)
            self.assertEqual(told and len(told), row and len(row), other)
        self.assertEqual(losing_row(still, [machine(FIRST)], still), ["u"])
        self.assertIsNone(losing_row(still, [still], still))
        self.assertEqual(losing_row(still, [still], machine("u0x v0y")), ["v"])

    def test_orders(self):
        still, left, right = machine(STILL), machine("u0y v0x"), machine("u0z v0w")
        self.assertEqual(settled_machine(still, [left, right], (0, 1)).rules(), machine_rules("u0y v0w"))
        self.assertEqual(settled_machine(still, [left, right], (1, 0)).rules(), machine_rules("u0z v0w"))
        self.assertEqual(settled_machine(still, [right], (0,)).rules(), machine_rules("u0z v0w"))
        self.assertEqual(settled_machine(still, [still], (0,)).rules(), machine_rules(STILL))
        for order in itertools.permutations(range(3)):
            first = [each for each in order if each != 2][0]
            self.assertIs(say_same(settled_machine(still, [left, right, still], order), machine(["u0y v0w", "u0z v0w"][first])), True)

    def test_at_random(self):
        found = {}
        for chance, base, afters in random_cases(120):
            other = chance.choice(afters + [base, random_rules(chance, 2, list(base[0]))])
            many = self.check(base, afters, other)
            found[many] = found.get(many, 0) + 1
        self.assertGreater(found[None], 30, found)
        self.assertGreater(len(found), 4, found)

    def test_any_number_can_be_kept_if_each_two_can(self):
        found = {True: 0, False: 0}
        for _, base, afters in random_cases(200):
            start, them = made_of(base), [made_of(after) for after in afters]
            pairs = itertools.combinations(them, 2)
            each_two = all(quarrel_row(start, list(pair)) is None for pair in pairs)
            self.assertIs(quarrel_row(start, them) is None, each_two)
            self.assertIs(calm(start, them, []), each_two)
            found[each_two] += 1
        self.assertGreater(min(found.values()), 30)

    def test_all_machines_that_keep_them_say_the_same(self):
        found = 0
        for chance, base, afters in random_cases(150):
            start, them = made_of(base), [made_of(after) for after in afters]
            if quarrel_row(start, them) is not None:
                continue
            made = kept_machine(start, them)
            order = tuple(chance.sample(range(len(them)), len(them)))
            self.assertEqual(seen(settled_machine(start, them, order)), seen(made))
            self.assertEqual(seen(kept_machine(start, them[::-1])), seen(made))
            for other in them + [start, made]:
                self.assertIs(losing_row(start, them, other) is None, say_same(other, made))
                found += 1
        self.assertGreater(found, 100)

    def test_what_was_asked_ahead_changes_nothing(self):
        cases = [(made_of(base), [made_of(after) for after in afters]) for _, base, afters in random_cases(30)]

        def told(start, them):
            return seen([quarrel_row(start, them), losing_row(start, them, start), settled_machine(start, them, tuple(range(len(them))))])

        first = [told(*case) for case in cases]
        self.assertEqual([told(*case) for case in cases[::-1]][::-1], first)


class UnlikeTest(unittest.TestCase):
    def test_other_inputs_in_any_argument(self):
        still, odd, quarrel = machine(STILL), machine("u0x"), [machine("u0y v0x"), machine("u0z v0x")]
        more = machine("u0x v0x w0x")
        for base, afters in [(odd, [still]), (still, [odd]), (still, [still, odd]), (odd, quarrel), (still, quarrel + [odd]), (more, [still]), (still, [still, more])]:
            for call in (lambda: wanted_at(base, afters, ["u"]), lambda: quarrel_row(base, afters), lambda: losing_row(base, afters, base),
                         lambda: kept_machine(base, afters), lambda: calm(base, afters, ["u"]), lambda: calm(base, afters, []),
                         lambda: settled_machine(base, afters, tuple(range(len(afters))))):
                self.assertRaises(Unlike, call)
        for other in (odd, more):
            self.assertRaises(Unlike, losing_row, still, [still], other)
            self.assertRaises(Unlike, losing_row, still, quarrel, other)


if __name__ == "__main__":
    unittest.main()
