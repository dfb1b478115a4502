"""Promises [52], and of [2] to [4] what they say of places and edits."""

import unittest

import oracle
from helpers import (any_values, ask, chain, chances, code, functions, functions_of, program, random_functions, seen, strangers,
                     term, twisted)

from answerskept import errors
from answerskept.places import edited, is_edit, least_edits, part_at, places
from answerskept.programs import Program

A, B, C = ("a",), ("b",), ("c",)
EXAMPLE = "pick a,b,c if a b tell c tell a\ntwice a,b with x go pick (a,b,f(b)) go pick (x,a,b)"

# A program with parts of all kinds.
ALL = ("p a,b,c if f(a) g(b,h(c)) with x go q (a,f(b)) if x a tell x go q (f(x),g(a,x)) tell f(f(a))\n"
       "q a,b with a tell g(a,b) tell a")


def random_edits(chance, rows, many, gos=()):
    """Some edits that fit functions, of which perhaps some overlap."""
    found = []
    for _ in range(many):
        name = chance.choice(sorted(rows))
        there = oracle.places_of(rows[name][1])
        place = chance.choice(sorted(there))
        scope = list(rows[name][0])
        new = chance.choice(scope)
        part = chance.choice([(new,), ("f", (new,))])
        if oracle.is_long(there[place]):
            other = chance.choice(scope)
            part = chance.choice([("tell", part), ("if", (new,), (other,), ("tell", (other,)), there[place]),
                                  ("with", "a", ("tell", part), there[place])]
                                 + [("go", go, tuple((new,) for _ in range(number))) for go, number in gos])
        found.append((name, place, part))
    return found


class PlacesTest(unittest.TestCase):
    def test_the_example(self):
        made = program(EXAMPLE)
        told = [places(made, "pick"), part_at(made, "pick", (3, 1)), part_at(made, "twice", (2, 2, 2))]
        self.assertEqual(told, [[(), (1,), (2,), (3,), (3, 1), (4,), (4, 1)], ("c",), ("f", ("b",))])
        some = [("pick", (2,), C), ("pick", (3, 1), A), ("pick", (4, 1), A)]
        self.assertEqual(edited(made, some).code("pick"), ("if", A, C, ("tell", A), ("tell", A)))
        self.assertEqual(least_edits(made, some, "pick"), [(0,), (1,)])

    def test_places(self):
        for text, told in [
                ("tell a", [(), (1,)]), ("tell f(a)", [(), (1,), (1, 1)]), ("tell g(a,f(b))", [(), (1,), (1, 1), (1, 2), (1, 2, 1)]),
                ("if a f(b) tell a tell b", [(), (1,), (2,), (2, 1), (3,), (3, 1), (4,), (4, 1)]),
                ("with x tell a tell x", [(), (2,), (2, 1), (3,), (3, 1)]), ("go q (a,b)", [(), (2, 0), (2, 1)]),
                ("go q (f(a),g(a,b))", [(), (2, 0), (2, 0, 1), (2, 1), (2, 1, 1), (2, 1, 2)]),
                ("with x go q (a,b) if a b tell x go q (x,f(x))",
                 [(), (2,), (2, 2, 0), (2, 2, 1), (3,), (3, 1), (3, 2), (3, 3), (3, 3, 1), (3, 4), (3, 4, 2, 0), (3, 4, 2, 1),
                  (3, 4, 2, 1, 1)])]:
            made = program("p a,b " + text + "\nq a,b tell a")
            self.assertEqual(ask(self, places, made, "p"), told, text)

    def test_parts(self):
        made = program(ALL)
        for name, place, told in [
                ("p", (), made.code("p")), ("p", (1,), term("f(a)")), ("p", (1, 1), A), ("p", (2, 2, 1), C), ("p", (4,), code("tell f(f(a))")),
                ("p", (3, 2), code("go q (a,f(b))")), ("p", (3, 2, 2, 0), A), ("p", (3, 2, 2, 1), term("f(b)")), ("p", (3, 2, 2, 1, 1), B),
                ("p", (3, 3, 4, 2, 1, 2), ("x",)), ("p", (3, 3, 1), ("x",)), ("p", (4, 1, 1, 1), A), ("q", (2, 1, 2), B), ("q", (3, 1), A),
                ("q", (3,), code("tell a")), ("q", (), code("with a tell g(a,b) tell a"))]:
            self.assertEqual(ask(self, part_at, made, name, place), told, (name, place))

    def test_all_parts_of_random_programs(self):
        for seed in range(60):
            rows = random_functions(chances(seed))
            made = Program(rows)
            for name in rows:
                right = oracle.places_of(rows[name][1])
                self.assertEqual(ask(self, places, made, name), sorted(right))
                for place in right:
                    self.assertEqual(part_at(made, name, place), right[place])

    def test_no_places(self):
        made = program(ALL)
        for name, place in [
                ("p", (0,)), ("p", (5,)), ("p", (1, 0)), ("p", (1, 2)), ("p", (3, 1)), ("p", (3, 0)), ("p", (3, 4)), ("p", (3, 2, 2)),
                ("p", (3, 2, 1)), ("p", (3, 2, 0)), ("p", (3, 2, 3)), ("p", (3, 2, 2, 2)), ("p", (3, 2, 2, -1)), ("p", (-1,)), ("p", (4, -1)),
                ("p", (4, 1, 1, 1, 1)), ("p", (4, 1, 1, 1, 0)), ("q", (1,)), ("q", (4,)), ("q", (2, 2)), ("q", (2, 0)), ("q", (10 ** 39,)),
                ("p", [1]), ("p", []), ("p", (True,)), ("p", (1, True)), ("p", (3, 2, 2, False)), ("p", ("1",)), ("p", (1.0,)), ("p", 1),
                ("p", (None,)), ("p", ((1,),)), ("p", (1, (1,))), ("p", None), ("p", True), ("p", ""), ("p", {}), ("p", ((),)),
                ("p", "1"), ("p", {(): 1}), ("p", code("tell a"))]:
            with self.assertRaises(errors.NoPlace) as held:
                part_at(made, name, place)
            self.assertIs(held.exception.place, place)

    def test_any_place(self):
        made = program(ALL)
        before = seen(made)
        for thing in any_values() + [list(place) for place in oracle.places_of(made.code("p"))]:
            for place in (thing, [thing], (thing,), (1, thing)):
                if place == () or place == (1,) and type(place[0]) is int or place == (1, 1) and type(place[1]) is int:
                    part_at(made, "p", place)
                    continue
                with self.assertRaises(errors.NoPlace) as held:
                    part_at(made, "p", place)
                self.assertIs(held.exception.place, place)
        self.assertEqual(seen(made), before)

    def test_twisted_places(self):
        made = program(ALL)
        right = oracle.places_of(made.code("p"))
        found = [0, 0]
        for place in right:
            for other in twisted(place):
                is_place = type(other) is tuple and all(type(step) is int for step in other) and other in right
                found[is_place] += 1
                if is_place:
                    self.assertEqual(part_at(made, "p", other), right[other])
                else:
                    with self.assertRaises(errors.NoPlace):
                        part_at(made, "p", other)
        self.assertGreater(min(found), 50)

    def test_no_function(self):
        made = program(ALL)
        for thing in any_values() + ["x", "P", "pq", ("p",), ["p"], {"p": 1}]:
            for call in (places, lambda made, name: part_at(made, name, ()), lambda made, name: part_at(made, name, "none")):
                with self.assertRaises(errors.NoFunction) as held:
                    call(made, thing)
                self.assertIs(held.exception.name, thing)

    def test_what_is_told_is_new(self):
        made = program(ALL)
        first = places(made, "p")
        first.append("spoiled")
        first.reverse()
        self.assertEqual(places(made, "p"), sorted(oracle.places_of(made.code("p"))))


class EditTest(unittest.TestCase):
    def test_edits_that_fit(self):
        made = program(ALL)
        for thing in [("p", (), code("tell a")), ("p", (), code("go none (z)")), ("p", (1,), A), ("p", (1, 1), term("g(a,a,z)")),
                      ("p", (3,), code("with z tell z tell z")), ("p", (3, 2), code("tell a")), ("p", (3, 2, 2, 0), term("f(f(a))")),
                      ("q", (3,), code("if a b tell a go p ()")), ("q", (2, 1, 2), ("zz",)), ("p", (4, 1), chain(100)),
                      ("p", (1,), made.code("p")[1]), ("p", (), made.code("p"))]:
            self.assertIs(ask(self, is_edit, made, thing), True, thing)

    def test_edits_that_do_not_fit(self):
        made = program(ALL)
        tell = code("tell a")
        for thing in [("p", (), A), ("p", (1,), tell), ("p", (3,), A), ("p", (3, 2, 2, 0), tell), ("p", (1,), "a"), ("p", (1,), ("if",)),
                      ("p", (), ("yes",)), ("p", (), ("tell", "a")), ("p", (5,), A), ("p", (3, 2, 2), (A, B)), ("p", (3, 2, 1), "q"),
                      ("p", (3, 1), "x"), ("p", (0,), "if"), ("p", (1, 0), "f"), ("z", (), tell), ("z", (1,), A), (("p",), (), tell),
                      ("p", [], tell), ("p", [1], A), ["p", (), tell], ("p", ()), ("p", (), tell, tell), ("p",), (), "p", ("p", None, tell),
                      ("p", (), None), ("p", (1,), list(A)), ("p", (True,), A), ("p", (1, True), A), ("p", (3, 2, 2, False), A),
                      (None, (), tell), ("p", "", tell), ("p", 1, A), (["p"], (), tell), ({}, (), tell)]:
            self.assertIs(ask(self, is_edit, made, thing), False, thing)

    def test_any_values(self):
        made = program(ALL)
        for thing in any_values():
            for other in (thing, [thing], (thing,), ("p", (), thing), ("p", (1,), thing), ("p", thing, A), (thing, (), code("tell a")),
                          ("p", thing, thing), (thing, thing, thing)):
                self.assertIs(is_edit(made, other), bool(oracle.is_edit(functions_of(made), other)), seen(other))

    def test_twisted_edits(self):
        made = program(ALL)
        rows = functions_of(made)
        counts = [0, 0]
        for thing in [("p", (), code("tell a")), ("p", (3, 2, 2, 1), term("g(a,b)")), ("q", (3,), code("if a b tell a go p (a,f(b))")),
                      ("p", (1, 1), B), ("p", (4,), code("with z tell a tell f(z)"))]:
            for other in twisted(thing):
                told = is_edit(made, other)
                self.assertIs(told, bool(oracle.is_edit(rows, other)), seen(other))
                counts[told] += 1
        self.assertGreater(min(counts), 50)

    def test_strangers_in_the_place_of_parts(self):
        made = program(ALL)
        rows = functions_of(made)
        for place, part in oracle.places_of(rows["p"][1]).items():
            for other in strangers() + [A, code("tell a"), part, ("yes",)]:
                self.assertIs(is_edit(made, ("p", place, other)), bool(oracle.is_edit(rows, ("p", place, other))))


class EditedTest(unittest.TestCase):
    def check(self, rows, edits):
        """That edits are made, or refused, as the oracle tells; the error's name, or None."""
        made = Program(rows)
        before = seen(made), seen(edits)
        right = oracle.edited(functions_of(made), edits)
        if type(right) is dict:
            told = ask(self, edited, made, edits)
            self.assertIsInstance(told, Program)
            self.assertEqual(functions_of(told), right)
            return None
        with self.assertRaises(getattr(errors, right[0])) as held:
            edited(made, edits)
        self.assertEqual(seen(tuple(vars(held.exception).values())), seen(right[1:]), edits)
        self.assertEqual((seen(made), seen(edits)), before)
        return right[0]

    def test_no_edits(self):
        made = program(ALL)
        self.assertEqual(ask(self, edited, made, []), made)

    def test_edits_of_all_kinds(self):
        made = program(ALL)
        edits = [("p", (1,), B), ("p", (2, 2), A), ("p", (3, 2, 2, 1, 1), term("f(c)")), ("p", (3, 3, 3), code("with y tell x tell y")),
                 ("p", (4,), code("go q (c,c)")), ("q", (), code("tell b"))]
        told = ask(self, edited, made, edits)
        self.assertEqual(functions_of(told), functions(
            "p a,b,c if b g(b,a) with x go q (a,f(f(c))) if x a with y tell x tell y go q (f(x),g(a,x)) go q (c,c)\nq a,b tell b"))
        for order in (edits[::-1], edits[3:] + edits[:3]):
            self.assertEqual(edited(made, order), told)

    def test_edits_that_change_nothing(self):
        made = program(ALL)
        for place, part in oracle.places_of(made.code("p")).items():
            self.assertEqual(edited(made, [("p", place, part)]), made)

    def test_all_at_once(self):
        """A part may only be right together with another one, in another function or within one."""
        made = program("p a go q (a)\nq a tell a")
        self.assertEqual(self.check(functions_of(made), [("p", (), code("tell a")), ("q", (), code("go p (a)"))]), None)
        self.assertEqual(self.check(functions_of(made), [("q", (), code("go p (a)"))]), "Round")
        rows = functions("p a if a a go q (a) tell a\nq a if a a tell a tell a")
        self.assertEqual(self.check(rows, [("q", (3,), code("go p (a)")), ("p", (3,), code("tell a"))]), None)

    def test_overlaps(self):
        made = program(ALL)
        tell = code("tell a")
        for edits, told in [
                ([("p", (), tell), ("p", (), tell)], (0, 1)), ([("p", (1,), A), ("p", (1,), B)], (0, 1)),
                ([("p", (), tell), ("p", (4, 1, 1), B)], (0, 1)), ([("p", (4, 1, 1), B), ("p", (), tell)], (0, 1)),
                ([("p", (1,), A), ("p", (1, 1), A)], (0, 1)), ([("p", (3, 3), tell), ("q", (), tell), ("p", (3,), tell)], (0, 2)),
                ([("p", (1,), A), ("q", (3,), tell), ("q", (3, 1), B), ("p", (1, 1), A)], (0, 3)),
                ([("q", (2, 1, 1), A), ("p", (2,), A), ("p", (2, 2), A), ("p", (2, 1), A)], (1, 2)),
                ([("p", (2, 1), A), ("p", (2, 2), A), ("p", (2,), A)], (0, 2)),
                ([("p", (4,), tell), ("p", (1,), A), ("q", (), tell), ("p", (3,), tell), ("q", (2, 1), A), ("p", (3,), tell)], (2, 4)),
                ([("p", (3, 2, 2, 1), A), ("p", (3, 2), tell)], (0, 1)), ([("q", (), code("go q (a,z)")), ("q", (3, 1), ("z",))], (0, 1))]:
            self.assertEqual(self.check(functions_of(made), edits), "Overlap", edits)
            with self.assertRaises(errors.Overlap) as held:
                edited(made, edits)
            self.assertEqual((held.exception.one, held.exception.other), told)

    def test_no_overlaps(self):
        made = program(ALL)
        for edits in ([("p", (1,), A), ("q", (), code("tell b"))], [("p", (4, 1), A), ("q", (3, 1), A)], [("p", (), code("tell b")),
                      ("q", (), code("tell b"))], [("p", (1, 1), B), ("p", (2, 1), A)], [("p", (3, 2, 2, 0), B), ("p", (3, 2, 2, 1), A)],
                      [("p", (2, 1), A), ("p", (2, 2), A)], [("p", (3, 2), code("tell a")), ("p", (3, 3), code("tell a"))]):
            self.assertIsNone(self.check(functions_of(made), edits), edits)

    def test_errors_of_programs(self):
        rows = functions("p a,b with x tell a go q (x,b)\nq a,b if a b tell a tell b\nr a go p (a,a)")
        for edits, told in [
                ([("q", (3,), code("go none (a)"))], ("Missing", "none")), ([("p", (3,), code("go q (a)"))], ("Uneven", "q")),
                ([("q", (4,), code("go r (a)"))], ("Round", "p")), ([("q", (4,), code("tell x"))], ("Loose", "q", "x")),
                ([("p", (2, 1), ("x",))], ("Loose", "p", "x")), ([("p", (3, 2, 0), ("y",))], ("Loose", "p", "y")),
                ([("r", (2, 1), B), ("q", (4,), code("go r ()")), ("p", (2,), code("go z (y)"))], ("Missing", "z")),
                ([("r", (2, 1), B), ("q", (4,), code("go r ()")), ("p", (2,), code("tell y"))], ("Uneven", "r")),
                ([("r", (2, 1), B), ("q", (4,), code("go r (a)")), ("p", (2,), code("tell y"))], ("Round", "p")),
                ([("r", (2, 1), B), ("q", (4,), code("tell z")), ("p", (2,), code("tell y"))], ("Loose", "p", "y")),
                ([("q", (), code("go none (a)")), ("q", (1,), A)], ("Overlap", 0, 1)),
                ([("p", (), code("tell x"))], ("Loose", "p", "x"))]:
            self.assertEqual(self.check(rows, edits), told[0], edits)
            with self.assertRaises(getattr(errors, told[0])) as held:
                edited(Program(rows), edits)
            self.assertEqual(tuple(vars(held.exception).values()), told[1:], edits)

    def test_random_edits(self):
        counts = {}
        for seed in range(300):
            chance = chances(seed)
            rows = random_functions(chance)
            gos = [(name, len(rows[name][0])) for name in rows] + [("none", 1), ("p", 2)]
            told = self.check(rows, random_edits(chance, rows, chance.randint(1, 6), gos))
            counts[told] = counts.get(told, 0) + 1
        self.assertEqual({*counts}, {"Overlap", "Missing", "Uneven", "Round", None})
        self.assertGreater(min(counts.values()), 3)

    def test_deep_places(self):
        rows = {"p": (["a"], ("tell", chain(100)))}
        place = (1,) * 100
        self.assertEqual(edited(Program(rows), [("p", place, term("g(a,a)"))]).code("p"),
                         ("tell", eval("('f', " * 99 + "('g', ('a',), ('a',))" + ")" * 99)))
        self.assertEqual(part_at(Program(rows), "p", place), A)
        self.assertEqual(len(places(Program(rows), "p")), 101)


class LeastEditsTest(unittest.TestCase):
    def check(self, rows, edits, name):
        told = ask(self, least_edits, Program(rows), edits, name)
        self.assertEqual(told, oracle.least_edits(rows, edits, name), (rows, edits))
        return told

    def test_lots(self):
        pick = functions("p a,b,c if a b tell c tell a")
        two = functions("p a,b,c if a b go q (c,a) tell a\nq a,b if a b tell a tell b\nr a tell a")
        for rows, edits, name, told in [
                (pick, [], "p", [()]), (pick, [("p", (1,), A)], "p", [()]), (pick, [("p", (1,), C)], "p", [(0,)]),
                (pick, [("p", (1,), B), ("p", (2,), A)], "p", [()]), (pick, [("p", (1,), B), ("p", (3, 1), A)], "p", [(1,)]),
                (pick, [("p", (2,), C), ("p", (3, 1), B)], "p", [(0, 1)]), (pick, [("p", (1,), C), ("p", (2,), C)], "p", [(0, 1)]),
                (pick, [("p", (3, 1), A), ("p", (1,), C), ("p", (2,), C), ("p", (4, 1), C)], "p", [(0,), (2,)]),
                (two, [("q", (3, 1), B)], "p", [()]), (two, [("q", (4, 1), A), ("r", (1,), term("f(a)"))], "p", [(0,)]),
                (two, [("q", (4, 1), A), ("r", (1,), term("f(a)"))], "r", [(1,)]), (two, [("q", (4, 1), A), ("q", (3, 1), B)], "q", [(0,)]),
                (two, [("p", (3, 2, 0), A), ("q", (4, 1), A), ("p", (3, 2, 1), C)], "p", [()]),
                (pick, [("p", (4, 1), C), ("p", (1,), C), ("p", (2,), C)], "p", [(0,), (1, 2)]),
                (two, [("r", (), code("go q (a,a)"))], "r", [()]), (two, [("r", (), code("go q (a,f(a))"))], "r", [(0,)])]:
            self.assertEqual(self.check(rows, edits, name), told, (edits, name))

    def test_lots_that_cannot_be_made_alone(self):
        rows = functions("p a,b go q (a,b)\nq a,b tell a\nr a tell a")
        edits = [("p", (), code("tell b")), ("q", (), code("go p (a,b)"))]
        self.assertEqual(self.check(rows, edits, "q"), [(0, 1)])
        self.assertEqual(self.check(rows, edits, "p"), [(0,)])
        self.assertEqual(self.check(rows, edits, "r"), [()])
        edits = [("p", (), code("tell a")), ("q", (), code("go p (a,a)")), ("r", (), code("go q (a,a)"))]
        self.assertEqual(self.check(rows, edits, "q"), [()])
        edits = [("p", (), code("tell f(a)")), ("q", (), code("go r (b)")), ("r", (), code("go p (a,a)"))]
        self.assertEqual([self.check(rows, edits, name) for name in "pqr"], [[(0,)], [(0, 1, 2)], [(0, 2)]])

    def test_random_lots(self):
        sizes = {}
        for seed in range(400):
            chance = chances(seed)
            rows = random_functions(chance, many=2, depth=2, givens=3)
            edits = []
            for each in random_edits(chance, rows, 6, [(name, len(rows[name][0])) for name in rows]):
                if type(oracle.edited(rows, edits + [each])) is dict:
                    edits.append(each)
            for name in rows:
                wholes = [oracle.whole(rows, name), oracle.whole(oracle.edited(rows, edits), name)]
                pool = oracle.closed([each for one in wholes for each in oracle.code_terms(one)])
                if len(pool) <= 4 and max(len(oracle.ways(one)) for one in wholes) <= 12:
                    told = self.check(rows, edits, name)
                    kind = (len(told) > 1, max(map(len, told)))
                    sizes[kind] = sizes.get(kind, 0) + 1
        for kind in ((False, 0), (False, 1), (False, 2), (True, 1), (True, 2)):
            self.assertGreater(sizes.get(kind, 0), 2, (kind, sizes))


if __name__ == "__main__":
    unittest.main()
