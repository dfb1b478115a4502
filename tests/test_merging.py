"""Promises [80], and of [2] to [4] what they say of sheets and merges."""

import itertools
import unittest

import oracle
from helpers import any_values, ask, chances, code, functions, functions_of, program, random_functions, seen, term, twisted

from answerskept import errors
from answerskept.forms import is_world
from answerskept.keeping import kept, losing_world
from answerskept.merging import clashes, is_lost_world, losing_lots, lost_world, made, merged, verdict
from answerskept.programs import Program
from answerskept.sameness import do_same
from answerskept.whole import whole

A, B, C, D, E = (("a",), ("b",), ("c",), ("d",), ("e",))
PLAN = "pick a,b,c,d,e if a b tell d tell a"
SHEETS = [[("pick", (2,), C)], [("pick", (3, 1), E)], [("pick", (3,), ("tell", E))]]
LOST = {("a",): 1, ("b",): 2, ("c",): 1, ("d",): 3, ("e",): 4}

# A program, sheets, a function, and the verdict.
VERDICTS = [
    (PLAN, SHEETS[:2], "pick", ("clean", "lost")), (PLAN, SHEETS[1:], "pick", ("clash", "kept")), (PLAN, SHEETS[:1], "pick", ("clean", "kept")),
    (PLAN, [[]], "pick", ("clean", "kept")), (PLAN, [[], []], "pick", ("clean", "kept")), (PLAN, [SHEETS[0], []], "pick", ("clean", "kept")),
    (PLAN, [SHEETS[0], SHEETS[0]], "pick", ("clean", "kept")), (PLAN, [[("pick", (3, 1), E)], [("pick", (3, 1), C)]], "pick", ("clash", "quarrel")),
    (PLAN, [[("pick", (3, 1), E)], [("pick", (3, 1), E), ("pick", (4, 1), C)]], "pick", ("clean", "kept")),
    (PLAN, [[("pick", (3, 1), E)], [("pick", (4, 1), E)]], "pick", ("clean", "kept")),
    # Neither loses alone; together the texts are clean, and where they quarrel nothing is lost.
    (PLAN, [[("pick", (3, 1), E)], [("pick", (), ("tell", B))]], "pick", ("clash", "quarrel")),
    ("p a,b,c tell a\nq a,b,c go p (a,b,c)", [[("p", (), ("tell", B))], [("q", (), ("tell", C))]], "q", ("clean", "lost")),
    ("p a,b,c with x tell a tell x", [[("p", (2, 1), B)], [("p", (3,), code("if x a tell c tell x"))]], "p", ("clean", "quarrel")),
    ("p a,b,c tell a\nq a,b,c go p (a,b,c)", [[("p", (), ("tell", B))], [("q", (), ("tell", C))]], "p", ("clean", "kept")),
    ("p a,b tell a\nq a,b tell b", [[("p", (), code("go q (a,b)"))], [("q", (), code("go p (a,b)"))]], "p", ("broken", "kept")),
    ("p a,b,c tell a\nq a,b,c tell a", [[("p", (), code("go q (b,b,b)"))], [("q", (), code("go p (c,c,c)"))]], "q", ("broken", "kept")),
    ("p a,b,c with x go q (a) tell x\nq a tell a\nr a go q (a)", [[("p", (2,), code("go r (b)"))], [("q", (), code("go r (a)")), ("r", (), code("tell a"))]],
     "p", ("clean", "kept")),
    ("p a,b,c with x go q (a) tell x\nq a tell a\nr a tell a", [[("p", (3, 1), C), ("r", (), code("go q (a)"))], [("q", (), code("go r (a)")), ("p", (2,), code("tell b"))]],
     "p", ("broken", "quarrel")),
    ("p a,b,c with x tell a tell b", [[("p", (2, 1), C)], [("p", (3, 1), ("x",))]], "p", ("clean", "lost")),
    ("p a,b if a b tell a tell b\nq a tell f(a)", [[("q", (1,), A)], [("q", (1,), A)]], "p", ("clean", "kept"))]


def random_sheets(chance, rows, editors, many):
    """Sheets that can be made each alone, with edits of the same places now and then, and equal ones."""
    pool, found = [], []
    for _ in range(editors):
        sheet = []
        for _ in range(many):
            name = chance.choice(sorted(rows))
            there = oracle.places_of(rows[name][1])
            place = chance.choice(sorted(there))
            thing = (chance.choice(rows[name][0]),)
            part = chance.choice([thing, ("f", thing)])
            if oracle.is_long(there[place]):
                gos = [("go", go, (thing,) * len(rows[go][0])) for go in rows]
                part = chance.choice([("tell", part), ("if", thing, (rows[name][0][0],), ("tell", part), there[place])] + gos[:1])
            edit = chance.choice([(name, place, part)] + pool[-2:])
            if type(oracle.edited(rows, sheet + [edit])) is dict:
                sheet.append(edit)
                pool.append(edit)
        found.append(sheet)
    return found


class MergingTest(unittest.TestCase):
    def check_merged(self, rows, sheets):
        """That sheets are made, clash and are merged as the oracle tells."""
        base = Program(rows)
        before = seen(base), seen(sheets)
        told = ask(self, made, base, sheets)
        self.assertEqual([functions_of(one) for one in told], [functions_of(Program(oracle.edited(rows, sheet))) for sheet in sheets])
        self.assertEqual(ask(self, clashes, sheets), oracle.clashes(sheets))
        right = oracle.merged(rows, sheets)
        if type(right) is dict:
            one = ask(self, merged, base, sheets)
            self.assertIsInstance(one, Program)
            self.assertEqual(one, Program(right))
            return one
        with self.assertRaises(getattr(errors, right[0])) as held:
            merged(base, sheets)
        self.assertEqual(seen(tuple(vars(held.exception).values())), seen(right[1:]))
        self.assertEqual((seen(base), seen(sheets)), before)
        return None

    def check(self, rows, sheets, name):
        """That all that is told of sheets and a function is as the oracle tells, and goes together."""
        one, base = self.check_merged(rows, sheets), Program(rows)
        told = ask(self, verdict, base, sheets, name)
        self.assertEqual(told, oracle.verdict(rows, sheets, name), (rows, sheets))
        world = ask(self, lost_world, base, sheets, name)
        self.assertEqual(world is not None, told == ("clean", "lost"))
        start, afters = whole(base, name), [whole(each, name) for each in made(base, sheets)]
        if world is not None:
            self.assertTrue(is_world(world))
            self.assertEqual(list(world), sorted(world))
            self.assertTrue(oracle.loses(start, afters, whole(one, name), world))
            self.assertIs(ask(self, is_lost_world, base, sheets, name, world), True)
        for each in oracle.worlds_of(start, *afters)[:10]:
            right = one is not None and oracle.loses(start, afters, whole(one, name), each)
            self.assertIs(is_lost_world(base, sheets, name, each), right)
        lots = ask(self, losing_lots, base, sheets, name)
        self.assertEqual(lots, oracle.losing_lots(rows, sheets, name), (rows, sheets))
        return told, lots

    def test_the_example(self):
        plan = program(PLAN)
        told = [verdict(plan, SHEETS[:2], "pick"), losing_lots(plan, SHEETS[:2], "pick"), verdict(plan, SHEETS[1:], "pick"), clashes(SHEETS)]
        self.assertEqual(repr(told), "[('clean', 'lost'), [(0, 1)], ('clash', 'kept'), [(1, 0, 2, 0)]]")
        self.assertEqual(merged(plan, SHEETS[:2]).code("pick"), code("if a c tell e tell a"))
        self.assertIs(is_lost_world(plan, SHEETS[:2], "pick", LOST), True)

    def test_made(self):
        plan = program(PLAN)
        told = ask(self, made, plan, SHEETS + [[], [("pick", (1,), term("f(b)")), ("pick", (4,), code("tell b"))]])
        self.assertEqual([one.code("pick") for one in told], [code(text) for text in (
            "if a c tell d tell a", "if a b tell e tell a", "if a b tell e tell a", "if a b tell d tell a", "if f(b) b tell d tell b")])
        self.assertEqual(told[3], plan)

    def test_clashes(self):
        tell = code("tell e")
        for sheets, told in [
                ([[]], []), ([[], []], []), ([[("p", (1,), A)]], []), ([[("p", (1,), A)], [("p", (1,), A)]], []),
                ([[("p", (1,), A)], [("p", (1,), B)]], [(0, 0, 1, 0)]), ([[("p", (1,), A)], [("q", (1,), B)]], []),
                ([[("p", (1,), A)], [("p", (2,), B)]], []), ([[("p", (), tell)], [("p", (4, 1), B)]], [(0, 0, 1, 0)]),
                ([[("p", (4, 1), B)], [("p", (), tell)]], [(0, 0, 1, 0)]), ([[("p", (3,), tell)], [("p", (3, 1), E)]], [(0, 0, 1, 0)]),
                ([[("p", (3, 1), A)], [("p", (3, 2), A)]], []), ([[("p", (1, 1), A)], [("p", (1, 1, 2), A)]], [(0, 0, 1, 0)]),
                ([[], [("p", (1,), A)], [], [("p", (1,), B)]], [(1, 0, 3, 0)]),
                ([[("p", (1,), A), ("q", (2,), B)], [("q", (2,), C), ("p", (1,), D)]], [(0, 0, 1, 1), (0, 1, 1, 0)]),
                ([[("p", (1,), A)], [("p", (1,), B)], [("p", (1,), A)]], [(0, 0, 1, 0), (1, 0, 2, 0)]),
                ([[("p", (1,), A)], [("p", (1,), B)], [("p", (1,), C)]], [(0, 0, 1, 0), (0, 0, 2, 0), (1, 0, 2, 0)]),
                ([[("q", (), tell)], [("q", (3, 1), A), ("p", (), tell), ("q", (1,), B)]], [(0, 0, 1, 0), (0, 0, 1, 2)]),
                ([[("q", (1,), B), ("q", (3, 1), A)], [("q", (), tell)]], [(0, 0, 1, 0), (0, 1, 1, 0)]),
                ([[("p", (1,), A), ("p", (2,), B)], [("p", (1,), A), ("p", (2,), C)], [("p", (2,), B)]], [(0, 1, 1, 1), (1, 1, 2, 0)]),
                ([[("p", (4,), tell)], [("p", (4,), tell), ("p", (1,), A)], [("p", (4, 1), E)]], [(0, 0, 2, 0), (1, 0, 2, 0)])]:
            self.assertEqual(repr(ask(self, clashes, sheets)), repr(told), sheets)
            self.assertEqual(oracle.clashes(sheets), told)

    def test_merged(self):
        plan = functions(PLAN + "\nlast a,b go pick (a,b,a,b,a)")
        for sheets, pick, last in [
                ([[]], "if a b tell d tell a", "go pick (a,b,a,b,a)"), ([[], [], [], []], "if a b tell d tell a", "go pick (a,b,a,b,a)"),
                (SHEETS[:2], "if a c tell e tell a", "go pick (a,b,a,b,a)"), ([SHEETS[2]], "if a b tell e tell a", "go pick (a,b,a,b,a)"),
                ([SHEETS[0], SHEETS[0], SHEETS[0]], "if a c tell d tell a", "go pick (a,b,a,b,a)"),
                ([[("pick", (1,), B), ("last", (2, 3), A)], [("last", (2, 3), A), ("pick", (4, 1), term("f(a)"))], [("pick", (1,), B)]],
                 "if b b tell d tell f(a)", "go pick (a,b,a,a,a)"),
                ([[("pick", (), code("tell e"))], [("last", (), code("tell b"))], [], [("pick", (), code("tell e"))]], "tell e", "tell b")]:
            one = self.check_merged(plan, sheets)
            self.assertEqual([one.code("pick"), one.code("last")], [code(pick), code(last)], sheets)

    def test_clash_raised(self):
        plan = program(PLAN)
        for sheets, told in [
                (SHEETS, ((1, 0), (2, 0))), (SHEETS[1:], ((0, 0), (1, 0))), ([[], [("pick", (1,), A)], [("pick", (2,), A), ("pick", (1,), C)]], ((1, 0), (2, 1))),
                ([[("pick", (1,), C), ("pick", (2,), C)], [("pick", (2,), D), ("pick", (1,), D)]], ((0, 0), (1, 1))),
                ([[("pick", (3, 1), C)], [("pick", (2,), C)], [("pick", (2,), D)], [("pick", (3, 1), D)]], ((0, 0), (3, 0)))]:
            with self.assertRaises(errors.Clash) as held:
                merged(plan, sheets)
            self.assertEqual((held.exception.one, held.exception.other), told, sheets)
            self.check_merged(functions(PLAN), sheets)
        self.assertEqual(plan, program(PLAN))

    def test_broken(self):
        rows = functions("p a,b tell a\nq a,b tell b\nr a tell a")
        for sheets, told in [
                ([[("p", (), code("go q (a,b)"))], [("q", (), code("go p (a,b)"))]], "p"),
                ([[("q", (), code("go r (a)"))], [], [("r", (), code("go q (a,a)"))]], "q"),
                ([[("p", (), code("go q (a,b)"))], [("q", (), code("go r (b)"))], [("r", (), code("if a a tell a go p (a,a)"))]], "p")]:
            with self.assertRaises(errors.Round) as held:
                merged(Program(rows), sheets)
            self.assertEqual(held.exception.name, told)
            for name in rows:
                self.assertEqual(self.check(rows, sheets, name)[0][0], "broken")
        clash = [[("p", (), code("go q (a,b)"))], [("q", (), code("go p (a,b)")), ("r", (1,), A)], [("r", (), code("go q (a,a)"))]]
        self.assertEqual(self.check(rows, clash, "r")[0][0], "clash")

    def test_verdicts(self):
        seen_words = {}
        for text, sheets, name, told in VERDICTS:
            self.assertEqual(self.check(functions(text), sheets, name)[0], told, (text, sheets))
            seen_words[told] = True
        self.assertEqual(sorted(seen_words), [("broken", "kept"), ("broken", "quarrel"), ("clash", "kept"), ("clash", "quarrel"),
                                              ("clean", "kept"), ("clean", "lost"), ("clean", "quarrel")])

    def test_lost_goes_ahead_of_quarrel(self):
        """Editors may quarrel in one world, and the merge lose in another one."""
        rows = functions("p a,b,c,d,e if a b tell c if c d tell a tell e\nq a,b,c,d,e go p (a,b,c,d,e)")
        sheets = [[("p", (2,), C)], [("p", (3, 1), E)], [("p", (4, 3, 1), D)]]
        self.assertEqual(self.check(rows, sheets, "p")[0], ("clean", "lost"))
        self.assertEqual(oracle.can_be_kept(oracle.whole(rows, "p"), [oracle.whole(oracle.edited(rows, each), "p") for each in sheets]), False)
        self.assertEqual(self.check(rows, sheets, "q")[0], ("clean", "lost"))

    def test_losing_lots(self):
        wide = "p a,b,c,d,e if a b tell d tell a\nq a,b,c,d,e tell a"
        b_to_c, d_to_e, a_to_e, idle = ("p", (2,), C), ("p", (3, 1), E), ("p", (4, 1), E), ("q", (1,), B)
        for sheets, told in [
                ([[b_to_c], [d_to_e]], [(0, 1)]), ([[b_to_c, d_to_e]], []), ([[b_to_c], [idle], [d_to_e]], [(0, 2)]),
                ([[b_to_c], [d_to_e], [b_to_c]], [(0, 1), (1, 2)]), ([[b_to_c], [d_to_e], [idle], [d_to_e]], [(0, 1), (0, 3)]),
                ([[], []], []), ([[]], []), ([[b_to_c]], []), ([[d_to_e], [a_to_e]], []), ([[b_to_c], [a_to_e]], [(0, 1)]),
                ([[b_to_c], [d_to_e], [a_to_e]], [(0, 1), (0, 2)]), ([[b_to_c], [("p", (3,), ("tell", E))], [d_to_e]], [(0, 1), (0, 2)]),
                ([[b_to_c], [("p", (2,), D)], [d_to_e]], [(0, 2), (1, 2)]), ([[("p", (2,), D)], [b_to_c]], [])]:
            self.assertEqual(self.check(functions(wide), sheets, "p")[1], told, sheets)
            self.assertEqual(losing_lots(program(wide), sheets, "q"), [])

    def test_losing_lots_of_three(self):
        """Three of whom each two are merged without a loss, and all three are not."""
        rows = functions("p a,b,c,d with x tell a with y tell a with z tell a if x a tell a if y a tell a if z a tell a tell d\nq b tell b")
        one, two, three, idle = ([("p", (2, 1), B)], [("p", (3, 2, 1), B)], [("p", (3, 3, 2, 1), B)], [("q", (1,), B)])
        for sheets, told in [([one, two, three], [(0, 1, 2)]), ([one, two], []), ([three, idle, two, one], [(0, 2, 3)]),
                             ([one, three, two, three], [(0, 1, 2), (0, 2, 3)]), ([one + two, three], [(0, 1)])]:
            self.assertEqual(self.check(rows, sheets, "p")[1], told, sheets)

    def test_random_sheets(self):
        found = {}
        for seed in range(250):
            chance = chances(seed)
            rows = random_functions(chance, many=2, depth=2, givens=3)
            sheets = random_sheets(chance, rows, chance.randint(1, 4), chance.randint(1, 2))
            self.check_merged(rows, sheets)
            for name in rows:
                wholes = [oracle.whole(oracle.edited(rows, sheet), name) for sheet in [[]] + sheets]
                pool = oracle.closed([each for one in wholes for each in oracle.code_terms(one)])
                if len(pool) <= 5 and max(len(oracle.ways(one)) for one in wholes) <= 16:
                    told, _ = self.check(rows, sheets, name)
                    found[told] = found.get(told, 0) + 1
        for told in (("clean", "kept"), ("clean", "lost"), ("clash", "kept"), ("clash", "quarrel")):
            self.assertGreater(found.get(told, 0), 5, found)

    def test_no_lost_worlds_where_nothing_is_merged(self):
        for text, sheets, name, told in VERDICTS:
            if told[0] != "clean":
                rows = functions(text)
                self.assertIsNone(ask(self, lost_world, Program(rows), sheets, name))
                for world in ({}, LOST, {("a",): 1, ("b",): 2, ("c",): 3}, None, [], {("a",): True}):
                    self.assertIs(ask(self, is_lost_world, Program(rows), sheets, name, world), False)

    def test_lost_worlds(self):
        plan = program(PLAN)
        for world, told in [
                (LOST, True), ({}, False), ({**LOST, ("z", 4): 5}, True), ({**LOST, ("c",): 3}, False), ({**LOST, ("d",): 1}, True), ({**LOST, ("d",): 4}, False),
                ({**LOST, ("e",): 3}, False), ({**LOST, ("b",): 1}, False), ({**LOST, ("d",): 10 ** 39}, True), ({**LOST, ("a",): True}, False),
                ({**LOST, ("c",): True}, False), ({**LOST, ("z",): True}, False), ({**LOST, ("z",): -1}, False), ({**LOST, "z": 1}, False),
                ({**LOST, ("f", True): 1}, False), ({**LOST, ("f", -1): 1}, False), ({**LOST, (): 1}, False), (list(LOST.items()), False),
                ({**LOST, ("z",): None}, False), (tuple(LOST), False), ({**LOST, ("go",): 1}, False)]:
            self.assertIs(ask(self, is_lost_world, plan, SHEETS[:2], "pick", world), told, world)

    def test_any_values(self):
        plan = program(PLAN)
        for thing in any_values():
            for sheets in (SHEETS[:2], SHEETS[1:], [[]]):
                self.assertIs(is_lost_world(plan, sheets, "pick", thing), False)
            for other in ([thing], (thing,), {**LOST, ("d",): thing}, {**LOST, ("z",): thing}):
                right = oracle.is_world(other) and oracle.loses(code("if a b tell d tell a"), [
                    code("if a c tell d tell a"), code("if a b tell e tell a")], code("if a c tell e tell a"), other)
                self.assertIs(is_lost_world(plan, SHEETS[:2], "pick", other), bool(right), seen(other))

    def test_twisted_worlds(self):
        plan = program(PLAN)
        base, afters = code("if a b tell d tell a"), [code("if a c tell d tell a"), code("if a b tell e tell a")]
        found = [0, 0]
        for first in (LOST, lost_world(plan, SHEETS[:2], "pick")):
            for thing in twisted(first):
                right = bool(oracle.is_world(thing) and oracle.loses(base, afters, code("if a c tell e tell a"), thing))
                self.assertIs(is_lost_world(plan, SHEETS[:2], "pick", thing), right, seen(thing))
                found[right] += 1
        self.assertGreater(min(found), 20)

    def test_merge_that_keeps(self):
        """Where the verdict is clean and kept, the merged code does the same as the code that keeps the afters."""
        for text, sheets, name, told in VERDICTS:
            if told == ("clean", "kept"):
                base = program(text)
                start, afters = whole(base, name), [whole(one, name) for one in made(base, sheets)]
                self.assertIs(do_same(kept(start, afters), whole(merged(base, sheets), name)), True)
                self.assertIsNone(losing_world(start, afters, whole(merged(base, sheets), name)))

    def test_what_was_asked_ahead_changes_nothing(self):
        def told(row):
            return repr([verdict(program(row[0]), *row[1:3]), lost_world(program(row[0]), *row[1:3]), losing_lots(program(row[0]), *row[1:3])])

        first = [told(row) for row in VERDICTS]
        self.assertEqual([told(row) for row in VERDICTS[::-1]], first[::-1])


if __name__ == "__main__":
    unittest.main()
