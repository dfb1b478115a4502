"""Promises [51], and of [2] to [4] what they say of whole codes and runs."""

import unittest

import oracle
from helpers import ask, chain, chances, code, functions, functions_of, program, random_functions, seen

from answerskept.codes import answer, asked, ways
from answerskept.forms import is_code
from answerskept.programs import Program
from answerskept.whole import ran, whole

EXAMPLE = "pick a,b,c if a b tell c tell a\ntwice a,b with x go pick (a,b,f(b)) go pick (x,a,b)"

# Lines of a program, the whole code of its function p.
WHOLES = [
    ("p a tell a", "tell a"), ("p a tell f(a,g(a))", "tell f(a,g(a))"), ("p a,b if a f(b) tell a tell b", "if a f(b) tell a tell b"),
    ("p a with x tell a tell x", "tell a"), ("p a with x tell f(a) tell g(x,a,x)", "tell g(f(a),a,f(a))"),
    ("p a with x tell f(a) if x a tell x tell a", "if f(a) a tell f(a) tell a"),
    ("p a,b with x if a b tell a tell f(b) tell g(x)", "if a b tell g(a) tell g(f(b))"),
    ("p a,b with x if a b tell a tell b if x a tell x tell b",
     "if a b if a a tell a tell b if b a tell b tell b"),
    # A with that has the name of a given, or of another with.
    ("p a,b with a tell b tell a", "tell b"), ("p a with a tell f(a) with a tell f(a) tell f(a)", "tell f(f(f(a)))"),
    ("p a,b with a tell f(a) if a b tell a tell b", "if f(a) b tell f(a) tell b"),
    ("p a,b with x tell a with x tell f(x) tell g(x,a)", "tell g(f(a),a)"),
    ("p a,b with x with x tell a tell f(x) tell g(x)", "tell g(f(a))"),
    ("p a,b with x tell b with y with x tell a tell f(x) tell g(x,y)", "tell g(b,f(a))"),
    # Withs within inner, and within body.
    ("p a with x with y tell f(a) tell g(y) tell h(x)", "tell h(g(f(a)))"),
    ("p a with x tell f(a) with y tell g(x) tell h(x,y)", "tell h(f(a),g(f(a)))"),
    ("p a,b with x with y if a b tell a tell b tell f(y) tell g(x)", "if a b tell g(f(a)) tell g(f(b))"),
    ("p a,b if a b with x tell a tell f(x) with x tell b tell g(x)", "if a b tell f(a) tell g(b)"),
    # Inner that ends in more than one tell.
    ("p a,b,c with x if a b if b c tell a tell b tell c tell f(x)", "if a b if b c tell f(a) tell f(b) tell f(c)"),
    ("p a,b with x if a b tell a tell b with y if x a tell x tell b tell g(x,y)",
     "if a b if a a tell g(a,a) tell g(a,b) if b a tell g(b,b) tell g(b,b)"),
    # Gos, also through others; givens are put in all at once, and nothing else stands.
    ("p a,b go q (b,a)\nq a,b tell g(a,b)", "tell g(b,a)"), ("p a,b go q (b,f(a))\nq a,b go r (b,a)\nr a,b tell g(a,b)", "tell g(f(a),b)"),
    ("p a,b go q (f(b),a)\nq a,b if a b tell f(a) tell b", "if f(b) a tell f(f(b)) tell a"),
    ("p a with x tell f(a) go q (x,a)\nq a,x tell g(a,x)", "tell g(f(a),a)"),
    ("p a with b tell f(a) go q (a)\nq c with b tell g(c) tell h(b,c)", "tell h(g(a),a)"),
    ("p a,b with x go q (a,b) go q (x,b)\nq c,d if c d tell c tell f(d)",
     "if a b if a b tell a tell f(b) if f(b) b tell f(b) tell f(b)"),
    ("p a,b with x go q (b) with b go q (x) tell g(a,b)\nq a tell f(a)", "tell g(a,f(f(b)))"),
    ("p a,b if a b go q (a) go q (b)\nq a tell f(a)", "if a b tell f(a) tell f(b)"),
    ("p a,b,c,d,e go q (e,d,c,b,a)\nq a,b,c,d,e if a b tell c if d e tell a tell b",
     "if e d tell c if b a tell e tell d"),
    ("p a go q (f(a),f(f(a)))\nq b,a go r (a,b,a)\nr a,b,c tell h(a,b,c)", "tell h(f(f(a)),f(a),f(f(a)))"),
    ("p a with x go q (a) tell x\nq a with x tell f(a) tell g(x,a)", "tell g(f(a),a)"),
    # A work whose name is that of a thing, or of a function.
    ("p a with a tell a(a) tell a(a,a)", "tell a(a(a),a(a))"), ("p p with f tell p(p) tell f(f,p)", "tell f(p(p),p)"),
    ("p a go q (a(a))\nq a tell a(a)", "tell a(a(a))"), ("p a,b with f tell f(b) tell f(f)", "tell f(f(b))")]


def worlds_for(chance, pool):
    """Worlds for some terms: without keys, at random, and with thirty keys."""
    yield {}
    for many in (8, 30):
        world = {}
        while len(world) < many:
            each = chance.choice(pool)
            key = (each[0],) + tuple(chance.randint(0, 3) for _ in each[1:])
            world[key if chance.random() < 0.8 else ("q", len(world))] = chance.randint(0, 3)
        yield world


class WholeTest(unittest.TestCase):
    def test_the_example(self):
        made = program(EXAMPLE)
        self.assertEqual(whole(made, "twice"), code("if a b if f(b) a tell b tell f(b) if a a tell b tell a"))
        self.assertEqual(ran(made, "twice", {("a",): 1, ("b",): 2}), 2)

    def test_whole_codes(self):
        for text, told in WHOLES:
            made = program(text)
            self.assertEqual(ask(self, whole, made, "p"), code(told), text)
            self.assertEqual(oracle.whole(functions(text), "p"), code(told), text)

    def test_each_function_has_its_own(self):
        made = program("p a,b go q (b)\nq b with a tell f(b) go r (a,b)\nr c,d if c d tell c tell d")
        self.assertEqual([ask(self, whole, made, name) for name in "pqr"], [
            code("if f(b) b tell f(b) tell b"), code("if f(b) b tell f(b) tell b"), code("if c d tell c tell d")])

    def test_codes_stay_as_they_are(self):
        for text in ("tell a", "if a b tell a tell f(b)", "if a b if a b tell a tell b if f(a) f(b) tell f(a) tell b"):
            self.assertEqual(whole(Program({"p": (("a", "b"), code(text))}), "p"), code(text))

    def test_runs(self):
        world = {("a",): 1, ("b",): 2, ("f", 1): 2, ("f", 2): 1, ("g", 1, 2): 5, ("g", 2, 1): 6, ("x",): 9, ("c",): 7, ("a", 1): 4}
        for text, told in [
                ("p a tell a", 1), ("p z tell z", 0), ("p a,b tell g(a,b)", 5), ("p a,b go q (b,a)\nq a,b tell g(a,b)", 6),
                ("p a with x tell f(a) tell x", 2), ("p b,a with a tell b tell a", 2), ("p a,b if f(a) b tell a tell b", 1),
                ("p a,b if f(b) b tell a tell b", 2), ("p a,b with x if a b tell a tell b tell g(a,x)", 5),
                ("p a,b with a with a tell b tell a tell g(a,b)", 0), ("p a go q (f(a))\nq x tell x", 2),
                ("p a go q (f(a))\nq a if a f(a) tell a with b tell f(a) tell g(b,a)", 5),
                ("p a,b with x tell a with a tell b if x a tell a tell x", 1), ("p c,x tell x", 9),
                ("p a with x tell f(a) with y go q (x) tell g(y,x)\nq x tell f(x)", 5), ("p a with b tell a(a) tell b", 4),
                ("p a,b go q (b)\nq c tell c", 2), ("p a tell f(f(a))", 1), ("p a tell h(a)", 0),
                ("p a with x if a a with a tell f(a) tell a tell a tell g(a,x)", 5)]:
            self.assertEqual(ask(self, ran, program(text), "p", world), told, text)
            self.assertEqual(oracle.ran(functions(text), "p", world), told, text)

    def test_what_is_bound_hides_what_the_world_has(self):
        world = {("x",): 5, ("a",): 1, ("c",): 8, ("b",): 3}
        self.assertEqual(ran(program("p a with x tell a tell x"), "p", world), 1)
        self.assertEqual(ran(program("p a,x with x tell a tell x"), "p", world), 1)
        self.assertEqual(ran(program("p a go q (a)\nq c tell c"), "p", world), 1)
        self.assertEqual(ran(program("p d go q (d)\nq c tell c"), "p", world), 0)
        self.assertEqual(ran(program("p a,b go q (b,a)\nq a,b if a b tell a tell b"), "p", world), 1)
        self.assertEqual(ran(program("p a,b with x with a tell b tell a with y tell a tell y"), "p", world), 1)

    def test_large_worths(self):
        world = {("a",): 10 ** 39, ("f", 10 ** 39): 10 ** 39 + 1, ("f", 10 ** 39 + 1): 3}
        self.assertEqual(ran(program("p a with x tell f(a) go q (x)\nq a tell f(a)"), "p", world), 3)

    def check(self, rows, chance):
        """That all functions have the whole codes and runs that the oracle tells, which go together."""
        made = Program(rows)
        for name in rows:
            right = oracle.whole(rows, name)
            told = ask(self, whole, made, name)
            self.assertEqual(told, right, rows)
            self.assertTrue(is_code(told))
            for world in worlds_for(chance, asked([told])):
                self.assertEqual(ask(self, ran, made, name, world), oracle.answer(right, world), rows)
                self.assertEqual(oracle.ran(rows, name, world), oracle.answer(right, world))
                self.assertEqual(answer(told, world), oracle.answer(right, world))

    def test_random_programs(self):
        large = 0
        for seed in range(120):
            chance = chances(seed)
            rows = random_functions(chance)
            if max(len(oracle.ways(oracle.whole(rows, name))) for name in rows) <= 40:
                self.check(rows, chance)
                large += any(len(oracle.ways(oracle.whole(rows, name))) > 8 for name in rows)
        self.assertGreater(large, 10)

    def test_at_the_bounds(self):
        """Four functions of five givens, whole codes of forty ways."""
        text = ("p a,b,c,d,e with x go q (a,b,c,d,e) go r (x,b,c,d,a)\nq a,b,c,d,e if a b tell c if b c tell d if c d tell e "
                "if d e tell a tell b\nr e,d,c,b,a with y go s (e,d,c,b,a) if y e tell y tell f(e)\n"
                "s a,b,c,d,e if a b tell c if b c tell d if c d tell e tell f(a)")
        rows = functions(text)
        self.assertEqual(len(oracle.ways(oracle.whole(rows, "p"))), 40)
        self.check(rows, chances(1))

    def test_many_withs(self):
        """Withs and gos, one within another, as deep as any value may be, and beyond."""
        for many in (30, 150):
            right, left = code("tell x"), code("tell a")
            for _ in range(many):
                right = ("with", "x", code("tell x"), right)
                left = ("with", "x", left, code("tell x"))
            right = ("with", "x", code("tell f(a)"), right)
            made = Program({"p": (["a"], right), "q": (["a"], left), "r": (["b"], ("go", "p", (("b",),)))})
            self.assertEqual([whole(made, name) for name in "pqr"], [code("tell f(a)"), code("tell a"), code("tell f(b)")])
            self.assertEqual([ran(made, name, {("a",): 3, ("b",): 4, ("f", 3): 1, ("f", 4): 2}) for name in "pqr"], [1, 3, 2])

    def test_terms_of_a_hundred_names(self):
        made = Program({"p": (["a"], ("with", "x", ("tell", chain(50)), ("go", "q", (chain(51, "x"),)))), "q": (["b"], code("tell b"))})
        self.assertEqual(ask(self, whole, made, "p"), ("tell", chain(100)))
        world = {("a",): 1, ("f", 1): 2, ("f", 2): 1}
        self.assertEqual(ask(self, ran, made, "p", world), oracle.worth(chain(100), world))

    def test_programs_stay_as_they_are(self):
        made = program(EXAMPLE)
        before = seen(made)
        world = {("b",): 2, ("a",): 2, ("x",): 7}
        for _ in range(2):
            whole(made, "twice")
            ran(made, "twice", world)
            whole(made, "pick")
        self.assertEqual(seen(made), before)
        self.assertEqual(list(world.items()), [(("b",), 2), (("a",), 2), (("x",), 7)])

    def test_what_was_asked_ahead_changes_nothing(self):
        first = [whole(program(text), "p") for text, _ in WHOLES]
        self.assertEqual([whole(program(text), "p") for text, _ in WHOLES[::-1]], first[::-1])

    def test_equal_programs_tell_the_same(self):
        rows = functions(EXAMPLE)
        other = {name: (tuple(rows[name][0]), rows[name][1]) for name in reversed(list(rows))}
        self.assertEqual(whole(Program(rows), "twice"), whole(Program(other), "twice"))
        self.assertEqual(functions_of(Program(rows)), functions_of(Program(other)))

    def test_values_of_terms_alone_count(self):
        """Keys of the world that no term asks for change nothing, whatever they are."""
        made = program("p a with x tell f(a) tell x")
        world = {("a",): 1, ("f", 1): 2}
        more = {**world, ("x",): 3, ("f",): 4, ("f", 1, 1): 5, ("a", 1): 6, ("p",): 7, ("f", 2): 8}
        self.assertEqual([ran(made, "p", world), ran(made, "p", more)], [2, 2])


if __name__ == "__main__":
    unittest.main()
