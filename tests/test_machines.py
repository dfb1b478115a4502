"""Promises [100], and of [2] to [4] what they say of machines."""

import itertools
import unittest

import oracle
from helpers import any_values, ask, chances, machine, machine_rules, program, random_rules, seen, spoil, twisted

from answerskept.errors import Unlike, Wrong
from answerskept.machines import Machine, are_pairs, folded, pairs, parting_row, say_same

STILL, FIRST, LATER = "u0x v0x", "u1y v1x / u1x v1x", "u1x v0x / u1x v1z"

# Rules; those of a machine with as few states as can be, numbered as they are met.
FOLDED = [
    ("u0x", "u0x"), ("u0x v0x", "u0x v0x"), ("u1x / u0x", "u0x"), ("u1x / u0y", "u1x / u0y"), ("u1x / u1x", "u0x"), ("u0x / u1y", "u0x"),
    ("u1x v1x / u0x v0x", "u0x v0x"), ("u0x v1y / u0x v1y", "u0x v0y"), ("u2x / u0y / u1x", "u1x / u2x / u0y"),
    ("v1x u2x / v1y u1x / v2z u2x", "u1x v2x / u1x v1z / u2x v2y"), ("u2x v1x / u1x v1x / u2x v1y", "u1x v2x / u1x v2y / u2x v2x"),
    ("u1x / u2x / u3x / u4x / u5x / u0y", "u1x / u2x / u3x / u4x / u5x / u0y"), ("u1x / u2x / u3y / u4x / u5x / u0y", "u1x / u2x / u0y"),
    ("u1x / u2y / u3x / u0y", "u1x / u0y"), ("u3x / u1y / u2z / u3x", "u0x"), ("u1x v0y w0x / u1x v0y w2x / u2x v0y w1x", "u0x v0y w0x"),
]


def every_rules(states, inputs="uv", outputs="xy"):
    """All rules with so many states."""
    steps = list(itertools.product(range(states), outputs))
    rules = [dict(zip(inputs, row)) for row in itertools.product(steps, repeat=len(inputs))]
    return itertools.product(rules, repeat=states)


def random_pairs(seeds, states=4):
    """Rules of two machines: any ones, those of one with states turned about, or with one step exchanged."""
    for seed in range(seeds):
        chance = chances(seed)
        one = random_rules(chance, chance.randint(1, states), "uv"[:chance.randint(1, 2)])
        order = chance.sample(range(len(one)), len(one))
        order = [0] + [state for state in order if state]
        other = [None] * len(one)
        for state, rule in enumerate(one):
            other[order[state]] = {name: (order[later], output) for name, (later, output) in rule.items()}
        if chance.random() < 0.5:
            rule, name = chance.choice(other), chance.choice(list(one[0]))
            rule[name] = (chance.randrange(len(one)), rule[name][1])
        if chance.random() < 0.2:
            other = random_rules(chance, chance.randint(1, states), list(one[0]))
        yield chance, one, other


def made_of(rules):
    return Machine(list(rules[0]), rules)


class MachineTest(unittest.TestCase):
    def refused(self, inputs, rules):
        """The place that is wrong, as the oracle finds it too."""
        right = oracle.wrong_place(inputs, rules)
        try:
            Machine(inputs, rules)
        except Wrong as error:
            self.assertIs(type(error.place), int)
            self.assertEqual(error.place, right, seen((inputs, rules)))
            return error.place
        self.assertIsNone(right, seen((inputs, rules)))
        return None

    def test_what_it_tells(self):
        made = Machine(["v", "u"], [{"v": (1, "x"), "u": (1, "y")}, {"u": (1, "x"), "v": (0, "z")}])
        self.assertEqual(ask(self, made.inputs), ["u", "v"])
        self.assertEqual(seen(ask(self, made.rules)), seen([{"u": (1, "y"), "v": (1, "x")}, {"u": (1, "x"), "v": (0, "z")}]))
        self.assertEqual(len(made), 2)
        for row, outputs, state in [([], [], 0), (["u"], ["y"], 1), (["v"], ["x"], 1), (["u", "v", "v"], ["y", "z", "x"], 1),
                                    (["v", "v"], ["x", "z"], 0), (["u", "u", "u"], ["y", "x", "x"], 1)]:
            self.assertEqual(ask(self, made.said, row), outputs, row)
            self.assertEqual(ask(self, made.state_behind, row), state, row)
            self.assertIs(type(made.state_behind(row)), int)

    def test_the_example(self):
        self.assertEqual(repr([machine(FIRST).said(["u", "u"]), parting_row(machine(STILL), machine(FIRST))]), "[['y', 'x'], ['u']]")

    def test_along_many_rows(self):
        for seed in range(60):
            chance = chances(seed)
            rules = random_rules(chance, chance.randint(1, 6), "uvw"[:chance.randint(1, 3)], "xyz")
            made = made_of(rules)
            self.assertEqual(len(made), len(rules))
            self.assertEqual(made.rules(), rules)
            for _ in range(10):
                row = [chance.choice(list(rules[0])) for _ in range(chance.randint(0, 12))]
                self.assertEqual(made.said(row), oracle.said(rules, row))
                self.assertEqual(made.state_behind(row), oracle.state_behind(rules, row))

    def test_lists_and_tuples_in_any_order(self):
        rules = machine_rules("u1y v0x w0x / u1x v0z w1x")
        first = Machine(["u", "v", "w"], rules)
        for names in itertools.permutations("uvw"):
            for kind, other in itertools.product((list, tuple), repeat=2):
                turned = other({name: rule[name] for name in names} for rule in rules)
                made = Machine(kind(names), turned)
                self.assertIs(made == first, True)
                self.assertEqual(seen(made.rules()), seen(first.rules()))
                self.assertEqual(made.inputs(), ["u", "v", "w"])

    def test_equal(self):
        texts = [STILL, FIRST, LATER, "u0x v0y", "u0x", "v0x", "u0x v0x w0x", "u1x v1x / u0x v0x", "u0x v0x / u0x v0x", "u0x v0x / u1x v1x"]
        for (at, one), (to, other) in itertools.product(enumerate(texts), repeat=2):
            self.assertIs(machine(one) == machine(other), at == to, (one, other))
            self.assertIs(machine(one) != machine(other), at != to)
        for other in any_values()[:-3] + [machine_rules(STILL), ["u", "v"], program("p a tell a"), 1, None]:
            if not isinstance(other, Machine):
                self.assertIs(machine(STILL) == other, False, seen(other))
                self.assertIs(other == machine(STILL), False)

    def test_wrong_ones(self):
        right = machine_rules(FIRST)
        names = ["u", "v"]
        for inputs in [None, (), [], "uv", {"u": 1, "v": 2}, ["u", "u"], ["u", "if"], ["u", 1], ["u", ["v"]], ["U"], [""], ("u", None), {}, 0,
                       ["abcdefghi"], [True], [("u",)]]:
            for rules in (right, [], None, [{}]):
                self.assertEqual(self.refused(inputs, rules), 0, inputs)
        for rules in [None, (), [], {}, "x", [None], [[]], [{}], right[0], {0: right[0]}, [right[0], None], [{"u": (0, "x")}], [right[0]], right + [{}],
                      [{"u": (0, "x"), "v": (0, "x"), "w": (0, "x")}], [{"u": (0, "x"), "w": (0, "x")}], [{"u": (0, "x"), "v": [0, "x"]}],
                      [{"u": (0, "x"), "v": (0,)}], [{"u": (0, "x"), "v": (0, "x", "x")}], [{"u": (0, "x"), "v": ("x", 0)}],
                      [{"u": (0, "x"), "v": (1, "x")}], [{"u": (0, "x"), "v": (-1, "x")}], [{"u": (False, "x"), "v": (0, "x")}],
                      [right[0], {"u": (True, "x"), "v": (0, "x")}], [{"u": (0, "x"), "v": (0, "if")}], [{"u": (0, "x"), "v": (0, "")}],
                      [{"u": (0, "x"), "v": (0, "X")}], [{"u": (0, "x"), "v": (0, None)}], [{"u": (0, "x"), "v": (0, ("x",))}],
                      [{"u": (0, "x"), "v": None}], [{"u": (0, "x"), 1: (0, "x")}], [{"u": (0, "x"), ("v",): (0, "x")}], [{"u": (10 ** 39, "x"), "v": (0, "x")}],
                      [machine_rules(STILL)[0], machine(STILL)], machine(FIRST), iter(())]:
            self.assertEqual(self.refused(names, rules), 1, seen(rules))
        self.assertIsNone(self.refused(names, right))
        self.assertIsNone(self.refused(("v", "u"), tuple(right)))

    def test_any_values(self):
        right = machine_rules(STILL)
        for thing in any_values():
            for inputs, rules in [(thing, right), (["u", "v"], thing), (thing, thing), ([thing], right), (["u", thing], right), (["u", "v"], [thing]),
                                  (["u", "v"], [{"u": thing, "v": (0, "x")}]), (["u", "v"], [{"u": (thing, "x"), "v": (0, "x")}]),
                                  (["u", "v"], [{"u": (0, thing), "v": (0, "x")}])]:
                self.refused(inputs, rules)

    def test_twisted_ones(self):
        counts = {}
        for text in (STILL, FIRST, "u0x"):
            rules = machine_rules(text)
            inputs = list(rules[0])
            for other in twisted(rules):
                told = self.refused(inputs, other)
                counts[told] = counts.get(told, 0) + 1
            for other in twisted(inputs):
                told = self.refused(other, rules)
                counts[told] = counts.get(told, 0) + 1
        self.assertTrue(counts[0] > 50 and counts[1] > 500 and counts[None] > 5, counts)

    def test_what_is_handed_in_may_be_changed_behind(self):
        inputs, rules = ["v", "u"], machine_rules(FIRST)
        made = Machine(inputs, rules)
        self.assertEqual((inputs, rules), (["v", "u"], machine_rules(FIRST)))
        spoil(rules)
        spoil(inputs)
        self.assertEqual(made.rules(), machine_rules(FIRST))
        self.assertEqual(made.inputs(), ["u", "v"])
        self.assertIs(made == machine(FIRST), True)
        spoil(made.rules())
        spoil(made.inputs())
        self.assertEqual(made.said(["u", "v"]), ["y", "x"])


class FoldedTest(unittest.TestCase):
    def check(self, rules):
        made = made_of(rules)
        told = ask(self, folded, made)
        self.assertIs(type(told), Machine)
        self.assertEqual(seen(told.rules()), seen(oracle.folded(rules)), rules)
        self.assertEqual(made.rules(), rules)
        return told

    def test_kinds(self):
        for text, right in FOLDED:
            told = self.check(machine_rules(text))
            self.assertEqual(told.rules(), machine_rules(right), text)
            self.assertIs(folded(told) == told, True)
            self.assertIs(say_same(told, machine(text)), True)

    def test_all_small_ones(self):
        for states in (1, 2):
            for rules in every_rules(states):
                self.check(list(rules))
        for rules in every_rules(3, "u"):
            self.check(list(rules))

    def test_at_random(self):
        many = {}
        for seed in range(150):
            chance = chances(seed)
            states = chance.randint(1, 5)
            told = self.check(random_rules(chance, states, "uvw"[:chance.randint(1, 3)], "xxy"))
            many[states - len(told)] = many.get(states - len(told), 0) + 1
        self.assertGreater(len(many), 3, many)

    def test_fewest_states(self):
        """No two states of it say the same along all rows, and each is met."""
        for _, rules, _ in random_pairs(60, 6):
            told = folded(made_of(rules)).rules()
            unlike = oracle.parting_lengths(told, told)
            self.assertEqual(len(unlike), len(told) * (len(told) - 1))
            self.assertEqual({oracle.state_behind(told, row) for row in oracle.rows(told[0], len(told) - 1)}, {*range(len(told))})

    def test_machines_that_say_the_same_are_folded_to_one(self):
        found = {True: 0, False: 0}
        for _, one, other in random_pairs(200):
            same = say_same(made_of(one), made_of(other))
            self.assertIs(folded(made_of(one)) == folded(made_of(other)), same, (one, other))
            found[same] += 1
        self.assertGreater(min(found.values()), 30)


class SameTest(unittest.TestCase):
    def check(self, one, other):
        """All that is told of two machines."""
        first, second = made_of(one), made_of(other)
        shortest = oracle.parting_lengths(one, other).get((0, 0))
        self.assertIs(ask(self, say_same, first, second), shortest is None, (one, other))
        row = ask(self, parting_row, first, second)
        found = ask(self, pairs, first, second)
        self.assertEqual(found, oracle.pairs(one, other), (one, other))
        self.assertIs(found is None, shortest is not None)
        self.assertIs(ask(self, are_pairs, first, second, found), shortest is None)
        if shortest is None:
            self.assertIsNone(row)
            for least in found:
                if least != (0, 0):
                    self.assertIs(are_pairs(first, second, [pair for pair in found if pair != least]), False)
        else:
            self.assertIs(type(row), list)
            self.assertEqual(len(row), shortest, (one, other, row))
            self.assertEqual(oracle.said(one, row)[:-1], oracle.said(other, row)[:-1])
            self.assertNotEqual(oracle.said(one, row)[-1], oracle.said(other, row)[-1])
        return shortest

    def test_kinds(self):
        for one, other, told, closed in [
                (STILL, STILL, None, [(0, 0)]), (STILL, FIRST, 1, None), (STILL, LATER, 2, None), (FIRST, LATER, 1, None),
                (STILL, "u1x v0x / u1x v0x", None, [(0, 0), (0, 1)]), ("u1x / u0x", "u1x / u2x / u0x", None, list(itertools.product((0, 1), (0, 1, 2)))),
                ("u1x / u0y", "u1x / u2y / u3x / u0y", None, [(0, 0), (0, 2), (1, 1), (1, 3)]), ("u1x / u0y", "u1x / u2y / u3x / u0x", 4, None),
                ("u0x", "u1x / u2x / u3x / u4x / u5x / u0y", 6, None), ("u0x", "u0x / u0y", None, [(0, 0)]), ("u0x v0y", "v0y u0x", None, [(0, 0)]),
                ("u1x v0x / u0x v1x", "u0x v1x / u0x v0x", None, [(0, 0), (0, 1), (1, 0), (1, 1)]), ("u1x v0x / u1x v1z", "u2x v0x / u0x v0x / u2x v2z", None, [(0, 0), (1, 2)])]:
            self.assertEqual(self.check(machine_rules(one), machine_rules(other)), told, (one, other))
            self.assertEqual(self.check(machine_rules(other), machine_rules(one)), told, (one, other))
            self.assertEqual(pairs(machine(one), machine(other)), closed)

    def test_same_and_not_equal(self):
        one, other = machine("u1x v0y / u0x v1y"), machine("u0x v0y")
        self.assertEqual((one == other, say_same(one, other), parting_row(one, other)), (False, True, None))

    def test_against_all_rows(self):
        """Machines of n and m states say the same if they do so along the rows of fewer than n + m inputs."""
        for _, one, other in random_pairs(100, 3):
            every = oracle.rows(one[0], len(one) + len(other) - 1)
            same = all(oracle.said(one, row) == oracle.said(other, row) for row in every)
            self.assertIs(say_same(made_of(one), made_of(other)), same, (one, other))

    def test_all_small_ones(self):
        every = [list(rules) for rules in every_rules(2, "u")] + [list(rules) for rules in every_rules(1, "u")]
        for one, other in itertools.product(every, repeat=2):
            self.check(one, other)

    def test_at_random(self):
        found = {}
        for _, one, other in random_pairs(250, 5):
            told = self.check(one, other)
            found[told] = found.get(told, 0) + 1
        self.assertLess({None, 1, 2, 3}, {*found, 9}, found)

    def test_row_that_is_told_is_new(self):
        one, other = machine(STILL), machine(LATER)
        spoil(parting_row(one, other))
        spoil(pairs(one, one))
        self.assertEqual((len(parting_row(one, other)), pairs(one, one)), (2, [(0, 0)]))

    def test_what_was_asked_ahead_changes_nothing(self):
        rows = [(made_of(one), made_of(other)) for _, one, other in random_pairs(40)]
        first = [repr([parting_row(*row), pairs(*row), folded(row[0]).rules()]) for row in rows]
        again = [repr([parting_row(*row), pairs(*row), folded(row[0]).rules()]) for row in rows[::-1]]
        self.assertEqual(again[::-1], first)


class ClosedTest(unittest.TestCase):
    def check(self, one, other, thing):
        right = bool(oracle.are_pairs(one, other, thing))
        self.assertIs(are_pairs(made_of(one), made_of(other), thing), right, seen((one, other, thing)))
        return right

    def test_kinds(self):
        one, other = machine_rules("u1x / u0y / u2x"), machine_rules("u1x / u2y / u3x / u0y")
        least = [(0, 0), (0, 2), (1, 1), (1, 3)]
        for thing, told in [
                (least, True), (least[::-1], True), (least[:-1], False), (least[1:], False), (least + [(0, 0)], False), (least + [(1, 1)], False),
                (least + [(2, 0)], False), (least + [(0, 1)], False), ([], False), ([(0, 0)], False), (tuple(least), False), ([list(pair) for pair in least], False),
                (least + [(3, 0)], False), (least + [(0, 4)], False), (least + [(-1, 1)], False), (least + [(0, -1)], False), (least + [(0, 0, 0)], False),
                (least + [None], False), (least + [()], False), ([(False, 0)] + least[1:], False), (least[:2] + [(True, True), (1, 3)], False),
                (None, False), (0, False), ({(0, 0): 1}, False), ("", False), (least + ["ab"], False), (least + [(0, "a")], False)]:
            self.assertIs(self.check(one, other, thing), told, thing)

    def test_more_than_the_least_one(self):
        one, other = machine_rules("u0x / u1x / u0x"), machine_rules("u0x / u0x")
        for thing, told in [([(0, 0)], True), ([(0, 0), (1, 1)], False), ([(0, 0), (1, 1), (1, 0)], True), ([(2, 1), (0, 0)], True), ([(2, 1)], False),
                            ([(1, 0), (0, 0)], True), ([(1, 0)], False), ([(0, 1), (2, 1), (0, 0), (1, 0)], True)]:
            self.assertIs(self.check(one, other, thing), told, thing)
        every = list(itertools.product(range(3), range(2)))
        for size in range(7):
            for thing in itertools.combinations(every, size):
                self.check(one, other, list(thing))

    def test_twisted_ones(self):
        counts = {True: 0, False: 0}
        for one, other in [("u1x v0x / u0x v1x", "u0x v1x / u0x v0x"), ("u0x", "u1x / u0x"), ("u1x / u0y", "u1x / u2y / u3x / u0y")]:
            one, other = machine_rules(one), machine_rules(other)
            for thing in twisted(oracle.pairs(one, other)):
                counts[self.check(one, other, thing)] += 1
        self.assertGreater(min(counts.values()), 5, counts)

    def test_any_values(self):
        one, other = machine_rules(STILL), machine_rules("u1x v1x / u0x v0x")
        for thing in any_values():
            for each in (thing, [thing], [(0, 0), (0, 1), thing], [(0, 0), (0, thing)], [(0, 0), (thing, 1)]):
                self.check(one, other, each)

    def test_at_random(self):
        counts = {True: 0, False: 0}
        for chance, one, other in random_pairs(200, 3):
            every = list(itertools.product(range(len(one)), range(len(other))))
            found = oracle.pairs(one, other)
            for _ in range(4):
                thing = chance.sample(every, chance.randint(1, len(every)))
                counts[self.check(one, other, thing)] += 1
                if found:
                    counts[self.check(one, other, found + [pair for pair in thing if pair not in found])] += 1
        self.assertGreater(min(counts.values()), 50)


class UnlikeTest(unittest.TestCase):
    def test_other_inputs(self):
        texts = ["u0x", "v0x", "u0x v0x", "u0x w0x", "u0x v0x w0x", "u1x v0x / u0x v0x"]
        for one, other in itertools.product(texts, repeat=2):
            first, second = machine(one), machine(other)
            for call in (say_same, parting_row, pairs, *(lambda *two, thing=thing: are_pairs(*two, thing) for thing in ([(0, 0)], None, "x", [(7, 7)]))):
                if first.inputs() == second.inputs():
                    call(first, second)
                else:
                    self.assertRaises(Unlike, call, first, second)

    def test_nothing_has_changed(self):
        one, other = machine(STILL), machine("u0x")
        self.assertRaises(Unlike, parting_row, one, other)
        self.assertEqual((one.rules(), other.rules()), (machine_rules(STILL), machine_rules("u0x")))


if __name__ == "__main__":
    unittest.main()
