"""Promises [41], and of [2] to [4] what they say of codes that do the same, and of papers."""

import unittest

import oracle
from helpers import any_values, ask, chances, code, random_code, random_terms, terms, twisted

from answerskept.codes import answer, trimmed
from answerskept.forms import is_code, is_world
from answerskept.sameness import do_same, idle_ifs, is_paper, is_parting_world, lean, paper, parting_world

WORLD = {("a",): 1, ("b",): 1, ("c",): 4, ("f", 1): 2}
CODE = code("if a b if f(b) f(a) tell f(a) tell c tell f(b)")
SHORT = code("tell f(b)")
MET = ("met",)

PAIRS = [
    ("tell a", "tell a", True), ("tell a", "tell b", False), ("tell a", "if a b tell b tell a", True),
    ("tell a", "if a b tell a tell a", True), ("if a b tell a tell c", "if b a tell b tell c", True),
    ("if a b tell a tell c", "if a b tell c tell a", False), ("if a a tell a tell b", "tell a", True),
    ("if a a tell a tell b", "tell b", False), ("if a b tell f(a) tell f(b)", "tell f(b)", True),
    ("if f(a) f(b) tell a tell b", "tell b", False), ("tell f(a)", "tell f(a,a)", False), ("tell a", "tell a(a)", False),
    ("if a b if a b tell c tell d tell e", "if a b tell c tell e", True),
    ("if a b if b c tell a tell b tell c", "if a b if b c tell c tell a tell c", True),
    ("if a b if b c tell a tell b tell c", "if a c if b c tell a tell b tell c", False),
    ("if a b tell c if b c tell a tell c", "tell c", False), ("if a b if c d tell g(a,c) tell c tell a",
                                                              "if a b if c d tell g(b,d) tell c tell a", True),
    ("if a b tell c tell d", "if a b if f(a) f(b) tell c tell a if f(a) f(b) tell d tell d", True)]


def pairs_of_codes():
    """Pairs of codes that a plain oracle can judge, also pairs that do the same."""
    for seed in range(130):
        chance = chances(seed)
        pool = oracle.closed(random_terms(chance, 4))
        if len(pool) <= 5:
            one, other = random_code(chance, pool, 3), random_code(chance, pool, 3)
            yield one, other
            first, second = chance.choice(pool), chance.choice(pool)
            yield one, ("if", first, second, trimmed(one), one)


class SamenessTest(unittest.TestCase):
    def test_the_example(self):
        told = [do_same(CODE, SHORT), is_paper(CODE, SHORT, ("if", ("a",), ("b",), MET, MET)), is_paper(CODE, SHORT, MET)]
        self.assertEqual(repr(told), "[True, True, False]")
        told = [idle_ifs(CODE), lean(CODE) == SHORT, is_parting_world(("tell", ("a",)), ("tell", ("c",)), WORLD)]
        self.assertEqual(repr(told), "[[((), 'no'), (('yes',), 'yes')], True, True]")

    def check(self, one, other, same):
        self.assertIs(ask(self, do_same, one, other), same, (one, other))
        self.assertIs(ask(self, do_same, other, one), same, (one, other))
        world = ask(self, parting_world, one, other)
        found = ask(self, paper, one, other)
        self.assertIs(world is None, same, (one, other))
        self.assertIs(found is not None, same, (one, other))
        if same:
            self.assertTrue(oracle.is_paper(found))
            self.assertIs(ask(self, is_paper, one, other, found), True)
            return
        self.assertTrue(is_world(world))
        self.assertEqual(list(world), sorted(world))
        self.assertNotEqual(answer(one, world), answer(other, world))
        self.assertIs(ask(self, is_parting_world, one, other, world), True)

    def test_pairs(self):
        for one, other, same in PAIRS:
            self.check(code(one), code(other), same)

    def test_random_pairs(self):
        found = [0, 0]
        for one, other in pairs_of_codes():
            same = oracle.do_same(one, other)
            self.check(one, other, same)
            found[same] += 1
        self.assertGreater(min(found), 50)

    def test_parting_worlds(self):
        one, other = code("if a b tell c tell d"), code("if a b tell d tell d")
        for world, told in [
                ({("c",): 1}, True), ({}, False), ({("c",): 1, ("d",): 1}, False), ({("c",): 1, ("a",): 2}, False),
                ({("d",): 7, ("a",): 2, ("b",): 2, ("z", 1): 3}, True), ({("c",): True}, False), ({("c",): -1}, False),
                ({("c",): 10 ** 39}, True), ({("c",): 1, "z": 1}, False), ({("c",): 1, ("z",): True}, False),
                ({("c",): 1, ("z", True): 0}, False), ([(("c",), 1)], False), ((("c",), 1), False), ({("c",): "1"}, False)]:
            self.assertIs(ask(self, is_parting_world, one, other, world), told, world)
        for thing in any_values():
            self.assertIs(is_parting_world(one, other, thing), False)

    def test_twisted_parting_worlds(self):
        found = [0, 0]
        one, other = code("if f(a) b tell c tell f(b)"), code("tell f(b)")
        for thing in twisted(parting_world(one, other)):
            right = bool(oracle.is_world(thing) and oracle.answer(one, thing) != oracle.answer(other, thing))
            self.assertIs(is_parting_world(one, other, thing), right, thing)
            found[right] += 1
        self.assertGreater(min(found), 3)

    def test_papers(self):
        for one, other, text, right in [
                ("tell a", "tell a", "met", True), ("tell a", "tell b", "met", False), ("tell a", "tell b", "if a b met met", False),
                ("tell a", "tell a", "if x y met if f(x) b met met", True), ("if a b tell b tell a", "tell a", "met", False),
                ("if a b tell b tell a", "tell a", "if a b met met", True),
                ("if a b tell b tell a", "tell a", "if b a met met", True),
                ("if a b tell b tell a", "tell a", "if a c met met", False),
                ("if a b tell b tell a", "tell a", "if a c if c b met if b a met met if a b met met", True),
                ("if a b tell b tell a", "tell a", "if f(a) f(b) if a b met met met", True),
                ("if a b tell b tell a", "tell a", "if f(a) f(b) met met", False),
                ("if a b tell b tell a", "tell a", "if f(a) f(b) met if a b met met", False),
                ("if a a tell b tell a", "tell b", "met", True), ("if a a tell b tell a", "tell a", "met", False),
                ("if a a tell b tell a", "tell a", "if a b met met", False),
                ("tell a", "tell b", "if c c if a b met met met", False),
                ("if a b tell f(a) tell f(b)", "tell f(b)", "if a b met met", True),
                ("if a b tell a tell b", "if a b tell b tell a", "if a b met met", False),
                ("tell met", "tell met", "if met met(a) met met", True)]:
            self.assertIs(ask(self, is_paper, code(one), code(other), code(text)), right, (one, other, text))
            self.assertIs(oracle.is_paper_of(code(one), code(other), code(text)), right, (one, other, text))

    def test_ends_whose_facts_cannot_hold_are_right(self):
        one, other = code("if a b tell b tell c"), code("if a b tell a tell c")
        for text in ("if a b if a b met met met", "if a b if f(a) f(b) met if x y met met met", "if a a if a b met met met"):
            self.assertIs(ask(self, is_paper, one, other, code(text)), True, text)
        self.assertIs(is_paper(code("tell a"), code("tell b"), code("if a b met if a b met met")), False)

    def test_random_papers(self):
        found = [0, 0]
        for at, (one, other) in enumerate(pairs_of_codes()):
            chance = chances(at)
            pool = terms("a b c f(a)")
            for thing in [random_code(chance, pool, 3, [MET]) for _ in range(3)] + [paper(one, other)]:
                if thing is not None and len(oracle.closed(oracle.code_terms(one) + oracle.code_terms(other) + pool)) <= 6:
                    right = oracle.is_paper_of(one, other, thing)
                    self.assertIs(ask(self, is_paper, one, other, thing), right, (one, other, thing))
                    found[right] += 1
        self.assertGreater(min(found), 30)

    def test_any_values_are_no_papers(self):
        for thing in any_values():
            for wrong in (thing, (thing,), ("if", ("a",), ("b",), thing, MET), ("if", ("a",), ("b",), MET, thing),
                          ("if", thing, ("b",), MET, MET), ("if", ("a",), thing, MET, MET), (thing, ("a",), ("b",), MET, MET)):
                self.assertIs(is_paper(SHORT, SHORT, wrong), False, wrong)

    def test_forms_of_papers(self):
        for wrong in [["met"], ("met", "met"), "met", ("if", ("a",), ("b",), MET), ("if", ("a",), ("b",), MET, MET, MET),
                      ["if", ("a",), ("b",), MET, MET], ("if", ["a"], ("b",), MET, MET), ("if", ("if",), ("b",), MET, MET),
                      ("if", ("a",), ("b",), MET, ["met"]), ("if", ("a",), ("b",), ("yes",), ("no",)), ("yes",), ("tell", ("a",)),
                      ("if", ("a",), ("b",), MET, ("if", ("a",), ("b",), MET, ("mett",))), ("unmet",), ("if", "a", "b", MET, MET),
                      ("unless", ("a",), ("b",), MET, MET), None, (), True]:
            self.assertIs(ask(self, is_paper, SHORT, SHORT, wrong), False, wrong)

    def test_twisted_papers(self):
        found = [0, 0]
        one, other = code("if a b tell b tell a"), code("tell a")
        for thing in twisted(code("if a b met if a c if b c met met met")):
            right = bool(oracle.is_paper(thing)) and oracle.is_paper_of(one, other, thing)
            self.assertIs(is_paper(one, other, thing), right, thing)
            found[right] += 1
        self.assertGreater(min(found), 5)

    def test_deep_papers(self):
        thing, other = MET, MET
        for at in range(27):
            thing = ("if", ("f", (chr(97 + at % 26),)), (chr(98 + at % 24), ("a",)), thing, MET)
            other = ("if", ("x",), ("f", other[1] if other != MET else ("x",)), MET, other)
        self.assertIs(ask(self, is_paper, CODE, CODE, ("if", ("a",), ("b",), MET, thing)), True)
        self.assertIs(ask(self, is_paper, CODE, CODE, thing), False)
        self.assertIs(ask(self, is_paper, SHORT, SHORT, other), True)

    def test_idle_ifs(self):
        for text, told in [
                ("tell a", []), ("if a b tell c tell d", []), ("if a b tell c tell c", [((), "no"), ((), "yes")]),
                ("if a a tell b tell c", [((), "yes")]), ("if a b tell b tell a", [((), "no")]),
                ("if a b tell f(a) tell f(b)", [((), "no")]), ("if a b tell c tell a", []),
                ("if a b if a b tell c tell d tell a", [(("yes",), "yes")]),
                ("if a b tell c if a b tell c tell d", [((), "no"), (("no",), "no")]),
                ("if a b if c d tell a tell a tell c", [(("yes",), "no"), (("yes",), "yes")]),
                ("if a b if b c tell a tell c tell c", [((), "no"), (("yes",), "no")])]:
            each = code(text)
            self.assertEqual(ask(self, idle_ifs, each), told, text)
            self.assertEqual(oracle.idle_ifs(each), told, text)

    def test_idle_ifs_and_lean_codes_at_random(self):
        found = 0
        for seed in range(90):
            chance = chances(seed)
            pool = oracle.closed(random_terms(chance, 4))
            if len(pool) <= 5:
                each = random_code(chance, pool, 4)
                told = ask(self, idle_ifs, each)
                self.assertEqual(told, oracle.idle_ifs(each), each)
                self.assertEqual(told, sorted(told))
                self.check_lean(each)
                found += len(told)
        self.assertGreater(found, 60)

    def check_lean(self, each):
        told = ask(self, lean, each)
        self.assertTrue(is_code(told))
        self.assertTrue(oracle.do_same(each, told), each)
        self.assertEqual(oracle.idle_ifs(told), [], each)
        self.assertTrue(made_by_sides(each, told), (each, told))

    def test_lean(self):
        for text, told in [
                ("tell a", "tell a"), ("if a b tell c tell d", "if a b tell c tell d"), ("if a a tell b tell c", "tell b"),
                ("if a b tell b tell a", "tell a"), ("if a b tell f(a) tell f(b)", "tell f(b)"),
                ("if a b if a b tell c tell d tell a", "if a b tell c tell a")]:
            each = code(text)
            self.check_lean(each)
            self.assertEqual(lean(each), code(told), text)

    def test_lean_of_codes_with_the_same_if_again(self):
        """What is made lean within the sides must not make the if above idle again."""
        for text in ("if a b if a b tell c tell d tell d", "if a b tell d if a b tell c tell d",
                     "if a b if b a tell c tell d if a b tell d tell c", "if a c if a b tell c tell d if a b tell c tell d",
                     "if a b if b c if a c tell d tell a tell b if a c if b c tell a tell b tell b"):
            self.check_lean(code(text))
            self.assertEqual(ask(self, idle_ifs, code(text)), oracle.idle_ifs(code(text)))

    def test_at_the_bounds(self):
        """Codes with sixteen ways over six and seven terms, that do the same in other words."""
        for seed, pool in enumerate([terms("a b c d e g"), oracle.closed(terms("f(f(a)) g(f(a),b)"))]):
            chance = chances(seed)
            one, other = full_code(chance, pool, 4), full_code(chance, pool, 4)
            same = under(other, one)
            self.check(one, same, True)
            self.check(one, other, oracle.do_same(one, other))
            self.assertIs(do_same(one, lean(same)), True)
            self.assertEqual(idle_ifs(lean(same)), [])
            self.assertEqual(ask(self, idle_ifs, one), oracle.idle_ifs(one))

    def test_what_was_asked_ahead_changes_nothing(self):
        texts = [code(one) for one, _, _ in PAIRS] + [code(other) for _, other, _ in PAIRS]
        first = [repr([paper(one, other), parting_world(one, other), lean(one)]) for one in texts for other in texts]
        second = [repr([paper(one, other), parting_world(one, other), lean(one)])
                  for one in texts[::-1] for other in texts[::-1]]
        self.assertEqual(first, second[::-1])


def full_code(chance, pool, many):
    if many == 0:
        return ("tell", chance.choice(pool))
    one, other = chance.sample(pool, 2)
    return ("if", one, other, full_code(chance, pool, many - 1), full_code(chance, pool, many - 1))


def under(top, each):
    """A code that does the same as each, with the ifs of another one above it."""
    if top[0] == "tell":
        return each
    return top[:3] + (under(top[3], each), under(top[4], each))


def made_by_sides(each, less):
    """Whether a code comes of another one by sides in the place of ifs."""
    if each == less:
        return True
    if each[0] == "tell":
        return False
    if less[:3] == each[:3] and made_by_sides(each[3], less[3]) and made_by_sides(each[4], less[4]):
        return True
    return made_by_sides(each[3], less) or made_by_sides(each[4], less)


if __name__ == "__main__":
    unittest.main()
