"""Promises [40], and of [2] and [3] what they say of codes and guards."""

import unittest

import oracle
from helpers import ask, chain, chances, code, facts, random_code, random_terms, term, terms

from answerskept.codes import answer, asked, depth, told_at, trimmed, ways
from answerskept.forms import is_code, is_guard
from answerskept.shapes import finest, world_of

WORLD = {("a",): 1, ("b",): 1, ("c",): 4, ("f", 1): 2}
CODE = code("if a b if f(b) f(a) tell f(a) tell c tell f(b)")
ENDS = [("yes",), ("no",)]


def full_code(chance, pool, many, ends=None):
    """A code with so many ifs on each way."""
    if many == 0:
        return chance.choice(ends) if ends else ("tell", chance.choice(pool))
    one, other = chance.choice(pool), chance.choice(pool)
    return ("if", one, other, full_code(chance, pool, many - 1, ends), full_code(chance, pool, many - 1, ends))


class CodesTest(unittest.TestCase):
    def test_the_example(self):
        pool = oracle.closed(terms("f(a) f(b) c"))
        told = [answer(CODE, WORLD), asked([CODE]) == pool, told_at(CODE, finest(pool, [(("a",), ("b",))]))]
        self.assertEqual(repr(told), "[2, True, ('f', ('a',))]")
        self.assertEqual(repr(ways(CODE)[0]), (
            "((('alike', ('a',), ('b',)), ('alike', ('f', ('b',)), ('f', ('a',)))), ('f', ('a',)))"))
        self.assertEqual([trimmed(CODE), trimmed(("if", ("a",), ("a",), ("yes",), ("no",)))],
                         [code("if a b tell f(a) tell f(b)"), ("yes",)])

    def test_answer(self):
        for text, told in [
                ("tell a", 1), ("tell f(a)", 2), ("tell x", 0), ("if a b tell c tell f(a)", 4), ("if a c tell c tell f(a)", 2),
                ("if a c tell a if a b tell c tell b", 4), ("if a c tell a if b c tell c tell f(b)", 2),
                ("if x y if f(a) f(b) tell c tell a tell b", 4), ("if f(a) a tell a tell f(f(a))", 0)]:
            self.assertEqual(ask(self, answer, code(text), WORLD), told, text)
        self.assertEqual(ask(self, answer, CODE, {}), 0)
        self.assertEqual(ask(self, answer, code("tell a"), {("a",): 10 ** 39, ("b", 1): 3}), 10 ** 39)

    def test_ways(self):
        for text, told in [
                ("tell a", [("", "a")]), ("if a b tell c tell d", [("a=b", "c"), ("a/b", "d")]),
                ("if a b if b c tell a tell b tell c", [("a=b b=c", "a"), ("a=b b/c", "b"), ("a/b", "c")]),
                ("if a b tell c if b c tell a tell c", [("a=b", "c"), ("a/b b=c", "a"), ("a/b b/c", "c")]),
                ("if a b if a b tell c tell d tell c", [("a=b a=b", "c"), ("a=b a/b", "d"), ("a/b", "c")]),
                ("if b a tell c tell c", [("b=a", "c"), ("b/a", "c")])]:
            right = [(tuple(facts(row)), term(end)) for row, end in told]
            self.assertEqual(ask(self, ways, code(text)), right, text)

    def test_ways_of_guards(self):
        for text, told in [
                ("yes", [("", True)]), ("no", [("", False)]), ("if a b yes no", [("a=b", True), ("a/b", False)]),
                ("if a b no if f(a) b yes yes", [("a=b", False), ("a/b f(a)=b", True), ("a/b f(a)/b", True)])]:
            right = [(tuple(facts(row)), end) for row, end in told]
            self.assertEqual(repr(ask(self, ways, code(text))), repr(right), text)

    def test_ways_of_random_codes(self):
        for seed in range(60):
            chance = chances(seed)
            pool = random_terms(chance, 6)
            for each in (random_code(chance, pool, 5), random_code(chance, pool, 5, ENDS)):
                told = ask(self, ways, each)
                self.assertEqual(repr(told), repr(oracle.ways(each)))
                self.assertEqual(ask(self, depth, each), max(len(row) for row, _ in told))

    def test_depth(self):
        for text, told in [("tell a", 0), ("yes", 0), ("no", 0), ("if a b tell a tell b", 1), ("if a a yes no", 1),
                           ("if a b if b c tell a tell b tell c", 2), ("if a b tell a if b c tell a tell b", 2),
                           ("if a b no if b c yes if a b yes if a b no no", 4)]:
            self.assertEqual(ask(self, depth, code(text)), told, text)

    def test_asked(self):
        for texts, told in [
                ([], ""), (["tell b"], "b"), (["tell f(b)", "tell f(a)"], "a b f(a) f(b)"), (["yes"], ""), (["no", "yes"], ""),
                (["if f(a) b tell c tell d"], "a b c d f(a)"), (["if a g(b) yes no"], "a b g(b)"),
                (["if a b if c d tell e tell g tell h(e)"], "a b c d e g h(e)"), (["alike b f(a)"], "a b f(a)"),
                (["unlike b a", "alike b a"], "a b"), (["if a b if c d yes no if e g no yes"], "a b c d e g")]:
            self.assertEqual(ask(self, asked, [code(text) for text in texts]), terms(told), texts)
        self.assertEqual(ask(self, asked, terms("f(b) a")), terms("a b f(b)"))
        self.assertEqual(ask(self, asked, terms("met") + [code("tell met"), code("if met(a) b yes no")]),
                         terms("a b met met(a)"))
        self.assertEqual(ask(self, asked, [term("f(b)"), ("unlike", ("a",), ("d",)), ("no",), CODE]),
                         terms("a b c d f(a) f(b)"))
        self.assertEqual(ask(self, asked, [chain(100)]), sorted(chain(many) for many in range(1, 101)))

    def test_told_at(self):
        for seed in range(60):
            chance = chances(seed)
            pool = oracle.closed(random_terms(chance, 5))
            if len(pool) <= 5:
                each = random_code(chance, pool, 4)
                for one in oracle.shapes(pool):
                    told = ask(self, told_at, each, one)
                    world = oracle.world_of(one)
                    ends = [end for row, end in oracle.ways(each) if all(oracle.holds(fact, world) for fact in row)]
                    self.assertEqual([told], ends)
                    self.assertEqual(oracle.worth(told, world), answer(each, world))

    def test_told_at_shapes_with_more_terms(self):
        pool = oracle.closed(terms("f(a) f(b) c x y z f(c)"))
        self.assertEqual(ask(self, told_at, CODE, finest(pool, [])), term("f(b)"))
        self.assertEqual(ask(self, told_at, CODE, finest(pool, [(("b",), ("a",))])), term("f(a)"))

    def test_trimmed(self):
        for text, told in [
                ("tell a", "tell a"), ("yes", "yes"), ("no", "no"), ("if a a tell b tell c", "tell b"), ("if a a no yes", "no"),
                ("if a b tell c tell d", "if a b tell c tell d"), ("if a b tell c tell c", "if a b tell c tell c"),
                ("if a b if a b tell c tell d tell d", "if a b tell c tell d"),
                ("if a b tell c if b a tell d tell e", "if a b tell c tell e"),
                ("if a b if b c if a c yes no no no", "if a b if b c yes no no"),
                ("if f(a) f(b) no if a b yes no", "if f(a) f(b) no no"),
                ("if f(a) f(b) if a b yes no no", "if f(a) f(b) if a b yes no no"),
                ("if a a if b c if b b if c b yes no no no no", "if b c yes no"),
                ("if a b if b c tell a tell b if a c if b c tell d tell a tell b",
                 "if a b if b c tell a tell b if a c tell a tell b"),
                ("if a b if c d if f(a,c) f(b,d) yes no yes if c d no no", "if a b if c d yes yes if c d no no")]:
            self.assertEqual(ask(self, trimmed, code(text)), code(told), text)

    def test_random_codes_trimmed(self):
        less = 0
        for seed in range(120):
            chance = chances(seed)
            pool = oracle.closed(random_terms(chance, 4))
            if len(pool) > 5:
                continue
            one, guard = random_code(chance, pool, 4), random_code(chance, pool, 4, ENDS)
            for each in (one, guard):
                told = ask(self, trimmed, each)
                self.assertEqual(told, oracle.trimmed(each), each)
                self.assertEqual(trimmed(told), told)
                less += told != each
            self.assertTrue(is_code(trimmed(one)) and is_guard(trimmed(guard)))
            for world in oracle.worlds(pool):
                self.assertEqual(answer(trimmed(one), world), answer(one, world))
        self.assertGreater(less, 40)

    def test_at_the_bounds(self):
        """Codes with sixteen ways, in all worlds of seven terms, and in worlds with other keys."""
        for seed, pool in enumerate([terms("a b c d e g h"), oracle.closed(terms("f(f(a)) g(f(a),b) f(b) c"))[:7]]):
            chance = chances(seed)
            each = full_code(chance, pool, 4)
            self.assertEqual([len(ask(self, ways, each)), ask(self, depth, each)], [16, 4])
            self.assertEqual(asked([each]), oracle.closed(oracle.code_terms(each)))
            more = {("q", number): number for number in range(20)}
            for one in oracle.shapes(pool)[::9]:
                world = {**more, **world_of(one)}
                self.assertEqual(answer(each, world), oracle.answer(each, world))
                self.assertEqual(answer(trimmed(each), world), oracle.answer(each, world))

    def test_what_was_returned_is_passed_in(self):
        long = code("tell a")
        for at in range(60):
            long = ("if", ("a",), (chr(97 + at % 26),), code("tell b"), long)
        self.assertEqual(ask(self, depth, long), 60)
        self.assertEqual(len(ask(self, ways, long)), 61)
        self.assertEqual(ask(self, trimmed, long)[0], "if")
        self.assertEqual(answer(trimmed(long), {("a",): 1, ("h",): 1, ("b",): 6}), 6)


if __name__ == "__main__":
    unittest.main()
