"""Promises [50], and of [2] to [4] what they say of long codes and Programs."""

import itertools
import unittest

import oracle
from helpers import (any_values, ask, chain, chances, code, functions, functions_of, program, random_functions, seen,
                     twisted)

from answerskept import errors
from answerskept.programs import Program, is_long

LONGS = [code(text) for text in (
    "tell a", "tell f(a,g(b))", "if a b tell a tell b", "if f(a) a if a b tell c tell d tell e", "go pick (a)",
    "go pick ()", "go pick (a,b,f(b),a)", "with x tell a tell x", "with met go met (a) if met a tell b tell met",
    "with x with y tell a tell y with x tell x go r (x,f(x))", "if a b with x tell a tell x go p (a)",
    "with a if a b tell a go p (b) with b tell a tell b")]

PICK = "pick a,b,c if a b tell c tell a"
TWICE = "twice a,b with x go pick (a,b,f(b)) go pick (x,a,b)"


class LongTest(unittest.TestCase):
    def test_right_ones(self):
        for thing in LONGS:
            self.assertIs(ask(self, is_long, thing), True, thing)

    def test_wrong_ones(self):
        a, tell = ("a",), ("tell", ("a",))
        for thing in [
                (), ("tell",), ("tell", "a"), ("tell", a, a), ["tell", a], ("tell", ("if",)), a, ("pick", a), ("yes",), ("met",),
                ("with", "x", tell), ("with", "x", tell, tell, tell), ("with", a, tell, tell), ("with", "if", tell, tell),
                ("with", "X", tell, tell), ("with", "", tell, tell), ("with", "x", a, tell), ("with", "x", tell, a),
                ("with", ["x"], tell, tell), ("with", None, tell, tell), ["with", "x", tell, tell], ("with", "x", [tell], tell),
                ("with", "abcdefghi", tell, tell), ("go", "p"), ("go", "p", a), ("go", "p", [a]), ("go", "p", ("a", a)),
                ("go", "p", (a, "b")), ("go", "p", (a,), (a,)), ("go", "go", (a,)), ("go", a, (a,)), ("go", 1, (a,)),
                ("go", "p", None), ("go", "p", (tell,)), ("go", "p", {}), ["go", "p", (a,)], ("go", ["p"], (a,)),
                ("if", a, a, tell), ("if", a, a, tell, a), ("if", a, a, tell, ("yes",)), ("if", tell, a, tell, tell),
                ("if", a, a, tell, ("with", "x", tell)), ("with", "x", tell, ("go", "p", a))]:
            self.assertIs(ask(self, is_long, thing), False, thing)

    def test_any_values(self):
        for thing in any_values():
            for other in (thing, [thing], (thing,), ("tell", thing), ("with", "x", thing, code("tell a")),
                          ("go", "p", thing), ("go", "p", (thing,)), ("go", thing, (("a",),)),
                          ("with", thing, code("tell a"), code("tell x"))):
                self.assertIs(is_long(other), bool(oracle.is_long(other)), seen(other))

    def test_twisted_ones(self):
        counts = [0, 0]
        for thing in LONGS:
            for other in twisted(thing):
                told = is_long(other)
                self.assertIs(told, bool(oracle.is_long(other)), seen(other))
                counts[told] += 1
        self.assertGreater(min(counts), 100)

    def test_deep_ones(self):
        deep = code("tell a")
        wrong = code("tell if")
        for at in range(300):
            kinds = [lambda x: ("with", "x", x, code("tell b")), lambda x: ("with", "x", code("tell b"), x),
                     lambda x: ("if", ("a",), ("b",), x, code("tell b")), lambda x: ("if", ("a",), ("b",), code("tell b"), x)]
            deep, wrong = kinds[at % 4](deep), kinds[at % 4](wrong)
        self.assertIs(is_long(deep), True)
        self.assertIs(is_long(wrong), False)
        self.assertIs(is_long(("go", "p", (chain(300),))), True)
        self.assertIs(is_long(("go", "p", (chain(300, "no"),))), False)

    def test_codes_are_long_ones_and_long_ones_no_codes(self):
        for thing in LONGS:
            self.assertIs(oracle.is_code(thing), not any(word in repr(thing) for word in ("'with'", "'go'")))


class ProgramTest(unittest.TestCase):
    def refused(self, rows):
        """What a Program of some functions is refused by, as a tuple, or None; and that nothing is changed."""
        before = seen(rows)
        try:
            Program(rows)
        except errors.KeptError as error:
            self.assertEqual(seen(rows), before)
            return (type(error).__name__,) + tuple(vars(error).values())
        self.assertEqual(seen(rows), before)
        return None

    def check(self, rows):
        told = self.refused(rows)
        self.assertEqual(seen(told), seen(oracle.refusal(rows)), seen(rows))
        return told

    def test_the_example(self):
        made = program(PICK + "\n" + TWICE)
        self.assertEqual(ask(self, made.reaches, "twice"), ["pick"])
        self.assertEqual(made.code("twice"), code("with x go pick (a,b,f(b)) go pick (x,a,b)"))

    def test_what_is_asked_of_it(self):
        rows = {"twice": (("a", "b"), functions(TWICE)["twice"][1]), "pick": (["a", "b", "c"], functions(PICK)["pick"][1]),
                "last": (["c", "a"], code("go twice (c,f(a))")), "alone": (("z",), code("tell z"))}
        made = Program(rows)
        self.assertEqual(ask(self, made.functions), ["alone", "last", "pick", "twice"])
        self.assertEqual([ask(self, made.givens, name) for name in made.functions()],
                         [["z"], ["c", "a"], ["a", "b", "c"], ["a", "b"]])
        for name in rows:
            self.assertEqual(ask(self, made.code, name), rows[name][1])
        self.assertEqual([ask(self, made.reaches, name) for name in made.functions()],
                         [[], ["pick", "twice"], [], ["pick"]])

    def test_gos_anywhere_lead(self):
        ends = "\np a tell a\nq a tell a\nr a tell a"
        for text, told in [
                ("s a if a a go p (a) go r (a)", ["p", "r"]), ("s a with x go q (a) tell x", ["q"]),
                ("s a with x tell a go q (x)", ["q"]), ("s a with x if a a tell a go r (a) if a x go q (a) go p (x)",
                                                        ["p", "q", "r"]),
                ("s a if a a with x tell a with y go p (x) tell y tell a", ["p"]), ("s p if p p(p) tell q(p) tell go", None),
                ("s p if p p(p) tell q(p) tell r(p)", []), ("s a with p tell a tell p", [])]:
            if told is not None:
                self.assertEqual(ask(self, program(text + ends).reaches, "s"), told, text)

    def test_reaches_through_others(self):
        made = program("a a go c (a)\nb a go a (a)\nc a if a a go d (a) go e (a)\nd a tell a\ne a go d (a)")
        self.assertEqual([made.reaches(name) for name in "abcde"],
                         [["c", "d", "e"], ["a", "c", "d", "e"], ["d", "e"], [], ["d"]])

    def test_one_given_and_five(self):
        made = program("p a tell a\nq e,d,c,b,a if a b if c d tell e tell a go p (c)")
        self.assertEqual([made.givens("p"), made.givens("q")], [["a"], ["e", "d", "c", "b", "a"]])

    def test_wrong_functions(self):
        a, tell = ["a"], code("tell a")
        for thing in [
                {}, [], None, "p", {"p": tell}, {"p": [a, tell]}, {"p": (a,)}, {"p": (a, tell, tell)}, {"p": ([], tell)},
                {"p": ((), tell)}, {"p": ("a", tell)}, {"p": (["a", "a"], tell)}, {"p": (("a", "b", "a"), tell)},
                {"p": ({"a": 1}, tell)}, {"p": (["if"], code("tell if"))}, {"p": ([("a",)], tell)}, {"if": (a, tell)},
                {"P": (a, tell)}, {"": (a, tell)}, {"abcdefghi": (a, tell)}, {1: (a, tell)}, {None: (a, tell)},
                {("p",): (a, tell)}, {"p": (a, ("a",))}, {"p": (a, ("yes",))}, {"p": (a, list(tell))}, {"p": (a, None)},
                {"p": (a, tell), "q": (a, None)}, {"p": (a, tell), "q": None}, {"p": (a, tell), 0: (a, tell)},
                {"p": (None, tell)}, {"p": ([["a"]], tell)}, {"p": (["a", None], tell)}, {"p": (["a", "B"], tell)},
                [("p", (a, tell))], {True: (a, tell)}]:
            self.assertEqual(self.check(thing), ("Wrong", 0), thing)

    def test_any_values(self):
        for thing in any_values():
            for other in (thing, [thing], {"p": thing}, {"p": (["a"], thing)}, {"p": (["a"], code("go q ()")), "q": thing}):
                self.assertEqual(self.check(other), ("Wrong", 0), seen(other))
            for other in ({"p": (thing, code("tell a"))}, {"p": ([thing], code("tell a"))}, {"p": (["a"], ("tell", thing))}):
                self.check(other)

    def test_twisted_functions(self):
        counts = {}
        for rows in [functions("p a tell a"), functions("p a,b with x go q (a,f(b)) if x a tell b tell x\nq b,c tell b"),
                     {"p": (("a", "b"), code("if a b tell a tell b"))}, functions("p a go q (a)\nq a,b tell a"),
                     functions("a b go zz (b)\nzz b tell b")]:
            for other in twisted(rows):
                told = self.check(other)
                word = told and told[0]
                counts[word] = counts.get(word, 0) + 1
        self.assertEqual({*counts}, {"Wrong", "Missing", "Uneven", "Round", "Loose", None})

    def test_values_thirty_deep(self):
        deep, loose = code("tell x"), code("tell x")
        for _ in range(29):
            deep, loose = ("with", "x", code("tell a"), deep), ("with", "x", loose, code("tell x"))
        self.assertIsNone(self.check({"p": (["a"], deep)}))
        self.assertEqual(self.check({"p": (["a"], loose)}), ("Loose", "p", "x"))

    def test_missing(self):
        for text, told in [
                ("p a go q (a)", "q"), ("p a go z (a)\nq a go b (a)", "b"), ("p a if a a go zz (a) go z (a)", "z"),
                ("p a with x go m (a) go n (x)", "m"), ("p a with x tell a go n ()", "n"), ("p a if a p(a) go p (a) go a (a)", "a"),
                ("x a tell a\np a with x tell a if x a tell a go y (x)", "y")]:
            self.assertEqual(self.check(functions(text)), ("Missing", told), text)

    def test_uneven(self):
        for text, told in [
                ("p a go q (a)\nq a,b tell a", "q"), ("p a go q (a,a)\nq a tell a", "q"), ("p a go q ()\nq a tell a", "q"),
                ("p a if a a go r (a,a) go q ()\nq a tell a\nr a tell a", "q"), ("p a go q (a,a)\nq a,b go r (a)\nr a,b tell a", "r"),
                ("z a with x go b (a,a) go a (x,x)\nb a tell a\na b tell b", "a"),
                ("p a,b,c,d,e go q (a,b,c,d)\nq a,b,c,d,e tell a", "q"), ("p a if a a go q (a) go q (a,a)\nq a tell a", "q")]:
            self.assertEqual(self.check(functions(text)), ("Uneven", told), text)

    def test_round(self):
        for text, told in [
                ("p a go p (a)", "p"), ("p a go q (a)\nq a go p (a)", "p"), ("z a go y (a)\ny a if a a tell a go z (a)", "y"),
                ("a a go b (a)\nb a go c (a)\nc a go b (a)", "b"), ("a a tell a\nb a go a (a)\nc a with x go d (a) tell x\n"
                                                                    "d a with x tell a go c (x)", "c"),
                ("a a go c (a)\nb a go c (a)\nc a go d (a)\nd a go b (a)", "b"),
                ("d a go d (a)\na a go b (a)\nb a go c (a)\nc a go d (a)", "d"), ("p a if a a if a a tell a tell a go p (f(a))", "p")]:
            self.assertEqual(self.check(functions(text)), ("Round", told), text)

    def test_loose(self):
        for text, told in [
                ("p a tell b", ("p", "b")), ("p a tell f(a,g(c))", ("p", "c")), ("p a if a x tell y tell a", ("p", "x")),
                ("p a if x a tell a tell a", ("p", "x")), ("p a if a a tell a tell b", ("p", "b")),
                ("p a with x tell x tell x", ("p", "x")), ("p a with x with y tell a tell y tell y", ("p", "y")),
                ("p a with x tell a with y tell y tell x", ("p", "y")), ("p a if a a with x tell a tell x tell x", ("p", "x")),
                ("p a with x tell y tell z", ("p", "y")), ("p a go q (b)\nq a tell a", ("p", "b")),
                ("p a go q (f(x))\nq a tell a", ("p", "x")), ("q a tell z\np a,b tell c", ("p", "c")),
                ("p a tell a\nq b tell a", ("q", "a")), ("p a go q (a)\nq b if b a tell b tell b", ("q", "a")),
                ("p a tell a(b)", ("p", "b")), ("p a with x tell a go q (x,y)\nq a,b tell a", ("p", "y"))]:
            self.assertEqual(self.check(functions(text)), ("Loose",) + told, text)

    def test_things_that_are_bound(self):
        for text in ("p a with x tell a tell x", "p a with a tell a tell a", "p a with x tell a with x tell x tell x",
                     "p a with x with y tell a tell y if x a tell x tell f(x)", "p a with x tell a with y tell x tell g(x,y)",
                     "p a tell f(a)", "p a tell a(a)", "p a with f tell f(a) tell f(f)", "p p tell p", "p a with x tell a go q (x,a)\nq b,a tell b",
                     "p a with x if a a with y tell a tell y tell a if x x tell x with z tell x tell z"):
            self.assertIsNone(self.check(functions(text)), text)

    def test_several_causes(self):
        """The first cause by the order of the errors is told, and for it the least name of all functions."""
        missing, uneven, round_one, loose = "go zz (a)", "go e ()", "go a (a)", "tell q"
        texts = {"Missing": missing, "Uneven": uneven, "Round": round_one, "Loose": loose}
        told = {"Missing": ("zz",), "Uneven": ("e",), "Round": ("a",), "Loose": ("a", "q")}
        for many in range(1, 5):
            for words in itertools.permutations(texts, many):
                body = "tell a"
                for word in words:
                    body = "if a a " + texts[word] + " " + body
                first = [word for word in texts if word in words][0]
                self.assertEqual(self.check(functions("a a " + body + "\ne a tell a")), (first,) + told[first], words)
        wrong = {**functions("a a go zz (a)"), "b": (["a"], None)}
        self.assertEqual(self.check(wrong), ("Wrong", 0))

    def test_several_causes_in_several_functions(self):
        for text, told in [
                ("a a tell z\nb a go a ()\nc a go c (a)\nd a go x (a)", ("Missing", "x")),
                ("a a tell z\nb a go a ()\nc a go c (a)\nd a tell a", ("Uneven", "a")),
                ("a a tell z\nb a go a (a)\nc a go c (a)\nd a go b (a)", ("Round", "c")),
                ("a a tell a\nb a if x a tell w tell a\nc a tell a\nd a tell b", ("Loose", "b", "w"))]:
            self.assertEqual(self.check(functions(text)), told, text)

    def test_random_functions(self):
        counts = {}
        for seed in range(500):
            chance = chances(seed)
            rows = random_functions(chance)
            for name in rows:
                givens, body = rows[name]
                place = chance.choice(sorted(oracle.places_of(body)))
                if chance.random() < 0.5 and oracle.is_long(oracle.places_of(body)[place]):
                    new = chance.choice([("go", chance.choice("pqrstu"), (("a",),)), ("tell", (chance.choice("abcxy"),))])
                    rows[name] = (givens, oracle.put_at(body, place, new))
            told = self.check(rows)
            counts[told and told[0]] = counts.get(told and told[0], 0) + 1
        self.assertGreater(min(counts[word] for word in ("Missing", "Uneven", "Round", "Loose", None)), 5)

    def test_no_function(self):
        made = program(PICK + "\n" + TWICE)
        for thing in any_values() + ["a", "x", "f", "picks", "Pick", "go", ("pick",), ["pick"], {"pick": 1}, ("a",), "z"]:
            for ask_it in (made.givens, made.code, made.reaches, lambda name: made.with_code(name, code("tell a"))):
                with self.assertRaises(errors.NoFunction) as held:
                    ask_it(thing)
                self.assertIs(held.exception.name, thing)
        self.assertEqual(made, program(PICK + "\n" + TWICE))

    def test_with_code(self):
        made = program(PICK + "\n" + TWICE)
        before = seen(made)
        other = ask(self, made.with_code, "twice", code("with y tell b tell f(y)"))
        self.assertIsInstance(other, Program)
        self.assertEqual(functions_of(other), functions(PICK + "\ntwice a,b with y tell b tell f(y)"))
        self.assertEqual([other.reaches("twice"), made.reaches("twice")], [[], ["pick"]])
        self.assertEqual(ask(self, made.with_code, "pick", made.code("pick")), made)
        self.assertEqual(seen(made), before)

    def test_with_code_refused(self):
        made = program(PICK + "\n" + TWICE)
        before = seen(made)
        for name, text, told in [
                ("pick", "go none (a)", ("Missing", "none")), ("pick", "go twice (a)", ("Uneven", "twice")),
                ("pick", "go twice (a,b)", ("Round", "pick")), ("twice", "go twice (a,b)", ("Round", "twice")),
                ("pick", "tell d", ("Loose", "pick", "d")), ("twice", "tell c", ("Loose", "twice", "c")),
                ("none", "tell a", ("NoFunction", "none")), ("none", "go none (z)", ("NoFunction", "none")),
                ("twice", "if z a go pick (a) go none ()", ("Missing", "none")),
                ("pick", "if z a go twice (a) go pick (a,a,a)", ("Uneven", "twice"))]:
            with self.assertRaises(getattr(errors, told[0])) as held:
                made.with_code(name, code(text))
            self.assertEqual(tuple(vars(held.exception).values()), told[1:], text)
            self.assertEqual(seen(made), before)

    def test_equal_programs(self):
        made = program(PICK + "\n" + TWICE)
        rows = functions(TWICE + "\n" + PICK)
        tuples = {name: (tuple(rows[name][0]), rows[name][1]) for name in rows}
        for other in (Program(rows), Program(tuples), made.with_code("pick", made.code("pick")), made):
            self.assertIs(made == other, True)
            self.assertIs(other == made, True)
            self.assertIs(made != other, False)

    def test_unequal_programs(self):
        made = program(PICK + "\n" + TWICE)
        for text in [PICK, "pick a,c,b if a b tell c tell a\n" + TWICE, "pick a,b,c if b a tell c tell a\n" + TWICE,
                     "picks a,b,c if a b tell c tell a\ntwice a,b tell a", PICK + "\n" + TWICE + "\nz a tell a",
                     "pick a,b,d if a b tell d tell a\n" + TWICE, "pick a,b,c if a b tell c tell a\ntwice a,b tell a"]:
            self.assertIs(made == program(text), False, text)
            self.assertIs(program(text) == made, False, text)
            self.assertIs(made != program(text), True, text)
        one = program("p a,b tell a")
        for other in (program("p b,a tell a"), program("p a,b tell b"), program("q a,b tell a"), program("p a tell a")):
            self.assertIs(one == other, False)

    def test_nothing_else_is_equal(self):
        made = program("p a tell a")
        for thing in any_values() + [functions_of(made), {"p": (("a",), code("tell a"))}, code("tell a"), "p"]:
            if not isinstance(thing, Program):
                self.assertIs(made == thing, False)
                self.assertIs(thing == made, False)
                self.assertIs(made != thing, True)

    def test_it_copies_what_it_is_given(self):
        rows = {"p": (["a", "b"], code("tell b")), "q": (["c"], code("go p (c,c)"))}
        made = Program(rows)
        before = seen(made)
        rows["p"][0].append("z")
        rows["p"][0].reverse()
        rows["q"] = (["d"], code("tell d"))
        del rows["p"]
        rows["zz"] = (["a"], code("tell a"))
        self.assertEqual(seen(made), before)
        self.assertEqual([made.functions(), made.givens("p"), made.reaches("q")], [["p", "q"], ["a", "b"], ["p"]])

    def test_what_is_told_is_new(self):
        made = program(PICK + "\n" + TWICE)
        before = seen(made)
        for told in (made.functions(), made.givens("pick"), made.givens("twice"), made.reaches("twice"), made.reaches("pick")):
            told.append("z")
            told.reverse()
        self.assertEqual(seen(made), before)
        self.assertEqual([made.reaches("twice"), made.reaches("pick")], [["pick"], []])

    def test_many_functions(self):
        """As many functions as 3,000 parts make, each of which goes on as the next one."""
        names = ["".join(row) for row in itertools.product("abcdefg", repeat=3)][:300]
        rows = {name: (["a"], ("go", after, (("a",),))) for name, after in zip(names, names[1:])}
        self.assertEqual(self.refused(rows), ("Missing", names[-1]))
        made = Program({**rows, names[-1]: (["a"], code("tell a"))})
        self.assertEqual(made.reaches(names[0]), names[1:])
        self.assertEqual(self.refused({**rows, names[-1]: (["a"], ("go", names[150], (("a",),)))}), ("Round", names[150]))

    def test_what_was_asked_ahead_changes_nothing(self):
        made, other = program(PICK + "\n" + TWICE), program(PICK + "\n" + TWICE)
        for name in ("pick", "twice", "none", "pick"):
            for call in (made.reaches, made.givens, made.code):
                try:
                    call(name)
                except errors.NoFunction:
                    pass
        self.assertEqual(seen(made), seen(other))
        self.assertIs(made == other, True)


if __name__ == "__main__":
    unittest.main()
