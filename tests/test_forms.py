"""Promises [21], and of [2] to [4] what names, terms, codes, guards, facts and worlds are."""

import itertools
import unittest

import oracle
from helpers import any_values, ask, chain, code, facts, is_hashable, strangers, term, terms, twisted

from answerskept import forms

FORMS = ("is_integer", "is_name", "is_term", "is_code", "is_guard", "is_fact", "is_world")
WORDS = ("alike", "go", "if", "no", "tell", "unlike", "with", "yes")
RIGHT = {
    "is_integer": [0, 1, -1, 10 ** 39, -(10 ** 40) + 1],
    "is_name": ["a", "z", "abcdefgh", "met", "ifs", "goes", "tells", "alikes", "n", "true"],
    "is_term": terms("a abcdefgh f(a) f(a,b,a) f(f(f(a),g(b,c))) a(a) f(f) met") + [chain(100), chain(300)],
    "is_code": [code(text) for text in (
        "tell a", "tell f(a)", "if a b tell c tell f(a)", "if a a tell a tell a",
        "if a b if f(b) f(a) tell f(a) tell c if c a tell a if b c tell a tell b")],
    "is_guard": [code(text) for text in (
        "yes", "no", "if a b yes no", "if f(a) a if a b no no if a a yes if c d no yes")],
    "is_fact": facts("a=b a/b a=a f(a)/g(a,b,c)"),
    "is_world": [{}, {("a",): 0}, {("a",): 1, ("b",): 10 ** 39, ("f", 1): 2, ("f", 1, 10 ** 39, 0): 3, ("f",): 0}],
}


class FormsTest(unittest.TestCase):
    def check(self, name, thing):
        """That a form tells of a thing just what the document says, by a truth."""
        told = getattr(forms, name)(thing)
        self.assertIs(told, bool(getattr(oracle, name)(thing)), (name, thing))
        return told

    def test_right_things(self):
        for name in FORMS:
            for thing in RIGHT[name]:
                self.assertIs(ask(self, getattr(forms, name), thing), True, (name, thing))

    def test_right_things_of_other_forms(self):
        for name in FORMS:
            for other in FORMS:
                for thing in RIGHT[other]:
                    self.assertEqual(self.check(name, thing), name == other, (name, thing))

    def test_any_values(self):
        for name in FORMS:
            for thing in any_values():
                told = self.check(name, thing)
                if not isinstance(thing, int):
                    self.assertIs(told, False, (name, thing))
                self.assertIs(getattr(forms, name)([thing]), False)
                self.assertIs(getattr(forms, name)((thing,)), False)

    def test_twisted_things(self):
        for name in FORMS:
            counts = [0, 0]
            for thing in RIGHT[name]:
                if thing in (chain(100), chain(300)):
                    continue
                for other in twisted(thing):
                    counts[self.check(name, other)] += 1
            self.assertGreater(counts[0], 10, name)

    def test_truths_are_no_integers(self):
        for truth in (True, False):
            self.assertIs(forms.is_integer(truth), False)
            self.assertIs(forms.is_world({("a",): truth}), False)
            self.assertIs(forms.is_world({("f", truth): 1}), False)
            self.assertIs(forms.is_world({("f", 0, truth): 1}), False)
            self.assertIs(forms.is_term(("f", truth)), False)

    def test_words_are_no_names(self):
        for word in WORDS:
            self.assertIs(forms.is_name(word), False, word)
            self.assertIs(forms.is_term((word,)), False, word)
            self.assertIs(forms.is_term((word, ("a",))), False, word)
            self.assertIs(forms.is_term(("f", ("a",), ("g", (word,)))), False, word)
            self.assertIs(forms.is_world({(word,): 1}), False, word)
            self.assertIs(forms.is_name(word + "s"), True, word)

    def test_letters_of_names(self):
        for number in range(128):
            sign = chr(number)
            for name in (sign, "a" + sign, sign + "a", "abc" + sign + "def"):
                self.assertIs(forms.is_name(name), oracle.is_name(name), name)
        for many in range(12):
            self.assertIs(forms.is_name("q" * many), 1 <= many <= 8)

    def test_letters_beyond_ascii(self):
        for sign in ("\u00e4", "\u0430", "\u00df", "\uff41"):
            self.assertIs(forms.is_name(sign), False)

    def test_parts_of_terms(self):
        for thing in [("a", ()), ("a", "b"), ("a", ["b"]), ["a"], ("a", None), (("a",),), (("a",), ("b",)), ("", ("a",)),
                      ("f", ("a",), ("B",)), (None,), (b"a",), ("f", ("a",), ["b"]), (), "a", ("f", ("a", ()))]:
            self.assertIs(forms.is_term(thing), False, thing)

    def test_deep_terms_with_one_wrong_part(self):
        for names in (30, 100, 300):
            self.assertIs(forms.is_term(chain(names)), True)
            for end in ("if", "", True, None, ["a"], ("a",)):
                self.assertIs(forms.is_term(chain(names, end)), False)

    def test_codes_are_no_guards(self):
        for thing in ["if a b tell a yes", "if a b yes tell a", "if a b if a b tell a no tell a", "if a b met met", "met"]:
            self.assertIs(forms.is_code(code(thing)), False, thing)
            self.assertIs(forms.is_guard(code(thing)), False, thing)

    def test_parts_of_codes(self):
        for thing in [("tell",), ("tell", "a"), ("tell", ("a",), ("b",)), ["tell", ("a",)], ("tell", ("tell", ("a",))),
                      ("tells", ("a",)), ("if", ("a",), ("b",), ("tell", ("a",))), ("go", "f", ()),
                      ("with", "x", ("tell", ("a",)), ("tell", ("x",))), ("if",), ("yes", ("a",)), ("no", "no"), "yes"]:
            self.assertIs(forms.is_code(thing), False, thing)
            self.assertIs(forms.is_guard(thing), False, thing)

    def test_facts_have_two_terms(self):
        a = ("a",)
        for thing in [("alike",), ("alike", a), ("alike", a, a, a), ("like", a, a), ["alike", a, a], ("alike", "a", a),
                      ("unlike", a, "a"), ("unlike", a, ()), ("if", a, a), "alike", ("alike", a, ["a"])]:
            self.assertIs(forms.is_fact(thing), False, thing)

    def test_worlds(self):
        for thing in [{"a": 1}, {(): 1}, {("a",): -1}, {("a", -1): 1}, {("a",): "1"}, {("a", "b"): 1}, {("a", ("b",)): 1},
                      {("a",): None}, {("a",): (1,)}, [("a",)], [(("a",), 1)], {("A",): 1}, {("a",): 1, ("b",): -1},
                      {("a",): 1, 0: 1}, {None: 1}, {("a", None): 0}, {(1,): 1}, {("abcdefghi",): 1}]:
            self.assertIs(forms.is_world(thing), False, thing)

    def test_large_worlds(self):
        world = {("f", one, other): one + other for one, other in itertools.product(range(40), repeat=2)}
        self.assertIs(forms.is_world(world), True)
        self.assertIs(forms.is_world({**world, ("f", 40, 40): True}), False)

    def test_deep_codes(self):
        deep, wrong = code("tell a"), code("tell if")
        for _ in range(300):
            deep, wrong = ("if", ("a",), ("b",), deep, code("tell b")), ("if", ("a",), ("b",), code("tell b"), wrong)
        self.assertIs(forms.is_code(deep), True)
        self.assertIs(forms.is_guard(deep), False)
        self.assertIs(forms.is_code(wrong), False)

    def test_strangers_as_keys(self):
        for stranger in strangers():
            if is_hashable(stranger):
                self.check("is_world", {stranger: 0})
                self.check("is_world", {("a", stranger): 0})


if __name__ == "__main__":
    unittest.main()
