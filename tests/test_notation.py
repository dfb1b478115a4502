"""Promises [110]: the texts of all sorts."""

import unittest

import oracle
import texts
from helpers import (any_values, ask, chain, chances, claim, code, functions, of_ways, program, random_code, random_functions,
                     random_long, random_pools, term)

from answerskept.notation import (show_claim, show_code, show_edit, show_fact, show_guard, show_program, show_term,
                                  show_world)
from answerskept.programs import Program

HUGE = 10 ** 39

TERMS = {
    "a": ("a",), "abcdefgh": ("abcdefgh",), "f(a)": ("f", ("a",)), "f(a,b)": ("f", ("a",), ("b",)), "f(a,g(b))": ("f", ("a",), ("g", ("b",))),
    "f(g(a),b)": ("f", ("g", ("a",)), ("b",)), "f(f(f(f)))": ("f", ("f", ("f", ("f",)))), "g(a,a,a,a)": ("g", ("a",), ("a",), ("a",), ("a",)),
    "f(g(a,b),g(b,a),c)": ("f", ("g", ("a",), ("b",)), ("g", ("b",), ("a",)), ("c",)), "goes(iff(yesyes),nono)": ("goes", ("iff", ("yesyes",)), ("nono",)),
    "a(a)": ("a", ("a",)), "quickly(jumbo,vwxz)": ("quickly", ("jumbo",), ("vwxz",)), "dfghikpr(lmnst)": ("dfghikpr", ("lmnst",)), "tella(withx)": ("tella", ("withx",)),
}
WORLDS = {
    "-": {}, "a=0": {("a",): 0}, "a=1 b=1 c=4 f(1)=2": {("f", 1): 2, ("c",): 4, ("b",): 1, ("a",): 1}, "f(0)=0 f(0,0)=1 f(1)=2": {("f", 1): 2, ("f", 0, 0): 1, ("f", 0): 0},
    "f(2)=0 f(10)=0": {("f", 10): 0, ("f", 2): 0}, f"a={HUGE} g({HUGE},0)=1": {("g", HUGE, 0): 1, ("a",): HUGE}, "a=1 ab=2 b=0": {("b",): 0, ("ab",): 2, ("a",): 1},
    "f=3 f(3)=3": {("f", 3): 3, ("f",): 3}, "if=1".replace("if", "iff"): {("iff",): 1},
}
EDITS = {
    "pick 3.1 f(a)": ("pick", (3, 1), term("f(a)")), "pick - tell a": ("pick", (), code("tell a")), "p 2 c": ("p", (2,), ("c",)),
    "p 3 if a b tell a tell b": ("p", (3,), code("if a b tell a tell b")), "q 2.0 a": ("q", (2, 0), ("a",)), "q - go p ()": ("q", (), code("go p ()")),
    "q 10.2.3.3.1.1 f(a,b)": ("q", (10, 2, 3, 3, 1, 1), term("f(a,b)")), f"q {HUGE}.0 a": ("q", (HUGE, 0), ("a",)), "p 4 with x tell a tell x": ("p", (4,), code("with x tell a tell x")),
    "tells 1 teller": ("tells", (1,), ("teller",)), "p - a": ("p", (), ("a",)),
}
CODES = [
    "tell a", "tell f(a,g(b))", "if a b tell a tell b", "if f(a) a if a b tell c tell d tell e", "go pick (a)", "go pick ()", "go pick (a,b,f(b),a)",
    "with x tell a tell x", "with met go met (a) if met a tell b tell met", "with x with y tell a tell y with x tell x go r (x,f(x))",
    "if a b with x tell a tell x go p (a)", "with a if a b tell a go p (b) with b tell a tell b", "with x go pick (a,f(b)) if x a tell f(a) tell x",
    "if a b if c d if e f tell a tell b tell c tell d", "if ifs goes tell tells tell alikes", "go goes (goes(goes),iff)"]
GUARDS = ["yes", "no", "if a b yes no", "if f(a) f(b) if a c no yes no", "if a b yes if a b yes if a b yes no", "if yesyes nono no yes"]
FACTS = ["alike a b", "unlike a b", "alike f(a,g(b)) a", "unlike alikes unlikes(a)"]
CLAIMS = ["yes a", "no f(a,b)", "if a b yes no c", "if a b if f(a) c no yes yes f(f(a))"]
PROGRAMS = [
    "pick a,b,c,d,e if a b tell d tell a\n", "p a tell a\n", "p a,b go q (a)\nq a tell f(a)\n", "goes iff,tells go tells (f(iff))\ntells a tell a\n",
    "a a tell a\nab b tell b\nb c,a with x go a (c) go ab (x)\n"]


class NotationTest(unittest.TestCase):
    def check(self, show, thing, text):
        told = ask(self, show, thing)
        self.assertIs(type(told), str)
        self.assertEqual(told, text)

    def test_the_example(self):
        fa, fb = ("f", ("a",)), ("f", ("b",))
        self.check(show_code, ("with", "x", ("go", "pick", (("a",), fb)), ("if", ("x",), ("a",), ("tell", fa), ("tell", ("x",)))),
                   "with x go pick (a,f(b)) if x a tell f(a) tell x")
        self.check(show_world, {("a",): 1, ("b",): 1, ("c",): 4, ("f", 1): 2}, "a=1 b=1 c=4 f(1)=2")
        self.check(show_program, program("pick a,b,c,d,e if a b tell d tell a"), "pick a,b,c,d,e if a b tell d tell a\n")

    def test_terms(self):
        for text, thing in TERMS.items():
            self.check(show_term, thing, text)
        self.check(show_term, chain(30), "f(" * 29 + "a" + ")" * 29)
        self.check(show_term, chain(100), "f(" * 99 + "a" + ")" * 99)

    def test_codes_guards_facts_claims(self):
        for rows, show, read in [(CODES, show_code, code), (GUARDS, show_guard, code), (FACTS, show_fact, code), (CLAIMS, show_claim, claim)]:
            for text in rows:
                self.check(show, read(text), text)

    def test_worlds(self):
        for text, thing in WORLDS.items():
            self.check(show_world, thing, text)

    def test_edits(self):
        for text, thing in EDITS.items():
            self.check(show_edit, thing, text)

    def test_programs(self):
        for text in PROGRAMS:
            rows = functions(text)
            self.check(show_program, Program(rows), text)
            turned = {name: (tuple(rows[name][0]), rows[name][1]) for name in sorted(rows, reverse=True)}
            self.check(show_program, Program(turned), text)

    def test_at_random(self):
        for seed in range(150):
            chance = chances(seed)
            rows = random_functions(chance)
            self.check(show_program, Program(rows), texts.shown_program(rows))
            for name, (_, each) in rows.items():
                self.check(show_code, each, texts.shown(each))
                for place, part in list(oracle.places_of(each).items())[:6]:
                    self.check(show_edit, (name, place, part), texts.shown_edit((name, place, part)))
        for chance, pool in random_pools(60):
            each = random_code(chance, pool, 3)
            self.check(show_code, each, texts.shown(each))
            for one in of_ways(each):
                self.check(show_claim, one, texts.shown_claim(one))
                self.check(show_guard, one[0], texts.shown(one[0]))
            for world in oracle.worlds_of(each)[:5]:
                self.check(show_world, world, texts.shown_world(world))
        long = random_long(chances(1), lambda scope: ("a",), [("p", 2)], 6, ["a"])
        self.check(show_code, long, texts.shown(long))

    def test_deep_ones(self):
        deep, guard = code("tell a"), ("yes",)
        for _ in range(30):
            deep, guard = ("with", "x", code("tell b"), ("if", ("a",), ("b",), deep, code("tell c"))), ("if", ("a",), ("b",), ("no",), guard)
        self.check(show_code, deep, "with x tell b if a b " * 30 + "tell a" + " tell c" * 30)
        self.check(show_guard, guard, "if a b no " * 30 + "yes")

    def test_unlike_things_have_unlike_texts(self):
        found = {}
        for seed in range(100):
            for _, each in random_functions(chances(seed)).values():
                self.assertEqual(found.setdefault(show_code(each), each), each)
        self.assertGreater(len(any_values()), 20)
        self.assertGreater(len(found), 200)


if __name__ == "__main__":
    unittest.main()
