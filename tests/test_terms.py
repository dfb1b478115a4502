"""Promises [22], and of [2] and [3] what they say of terms."""

import unittest

import oracle
from helpers import ask, chain, chances, random_terms, term, terms

from answerskept.terms import closed, mark, put_in, subterms, things

WIDE = ("f",) + tuple((name,) for name in "zyxwvutsrqponmlkjihgfedcba") * 4


class TermsTest(unittest.TestCase):
    def test_the_example(self):
        a, b, c = ("a",), ("b",), ("c",)
        fa, fb = ("f", a), ("f", b)
        told = [subterms(("g", fa, a)), closed([fb, fa]), put_in(("g", fa, b), {"a": b, "b": c})]
        self.assertEqual(repr(told), (
            "[[('a',), ('f', ('a',)), ('g', ('f', ('a',)), ('a',))], "
            "[('a',), ('b',), ('f', ('a',)), ('f', ('b',))], ('g', ('f', ('b',)), ('c',))]"))

    def test_subterms(self):
        for text, told in [
                ("a", "a"), ("f(a)", "a f(a)"), ("f(a,a)", "a f(a,a)"), ("a(a(a))", "a a(a) a(a(a))"),
                ("f(b,a)", "a b f(b,a)"), ("g(f(a,b),f(a))", "a b f(a) f(a,b) g(f(a,b),f(a))"),
                ("b(z,b)", "b b(z,b) z")]:
            self.assertEqual(ask(self, subterms, term(text)), terms(told), text)

    def test_closed(self):
        for text, told in [
                ("", ""), ("a", "a"), ("b a b", "a b"), ("f(b) f(a)", "a b f(a) f(b)"),
                ("f f(a) f(a,b)", "a b f f(a) f(a,b)"), ("a a(b) aa ab a(a)", "a a(a) a(b) aa ab b")]:
            self.assertEqual(ask(self, closed, terms(text)), terms(told), text)

    def test_closed_is_the_same_of_what_is_closed(self):
        for seed in range(60):
            pool = random_terms(chances(seed), 9)
            told = ask(self, closed, pool)
            self.assertEqual(told, oracle.closed(pool))
            self.assertEqual(told, closed(told))
            self.assertEqual(told, closed(pool + pool[::-1]))

    def test_the_order_is_pythons(self):
        pool = oracle.closed(terms("a ab abc b f f(a) f(a,a) f(a,b) f(ab) f(b) f(b,a) f(f(a)) f(f(a),b) fa fa(b) z"))
        self.assertEqual(closed(pool[::-1]), sorted(pool))
        marks = [mark(each) for each in pool]
        self.assertEqual(marks, sorted(marks))
        self.assertEqual(len({*marks}), len(pool))

    def test_marks_are_in_the_order_of_terms(self):
        for seed in range(40):
            pool = random_terms(chances(seed), 12, names=("a", "ab", "b", "abc"), works=("a", "ab", "f"), parts=(1, 2, 3))
            self.assertEqual(sorted(pool), sorted(pool, key=mark))
            self.assertEqual(len(pool), len({mark(each) for each in pool}))

    def test_things(self):
        for text, told in [("a", ["a"]), ("f(a)", ["a"]), ("f(b,a,b)", ["a", "b"]), ("a(b)", ["b"]),
                           ("f(g(c,a),f(b,ab))", ["a", "ab", "b", "c"]), ("a(a)", ["a"])]:
            self.assertEqual(ask(self, things, term(text)), told, text)

    def test_put_in(self):
        for text, names, told in [
                ("a", {}, "a"), ("a", {"a": "b"}, "b"), ("a", {"b": "c"}, "a"), ("a", {"a": "f(a)"}, "f(a)"),
                ("f(a,b)", {"a": "b", "b": "a"}, "f(b,a)"), ("f(a,a)", {"a": "g(a,b)", "b": "c"}, "f(g(a,b),g(a,b))"),
                ("a(a,f(a))", {"a": "b"}, "a(b,f(b))"), ("f(f,a)", {"f": "a"}, "f(a,a)"),
                ("f(a)", {"f": "b"}, "f(a)"), ("g(f(a),b,c)", {"c": "c", "b": "f(c)"}, "g(f(a),f(c),c)")]:
            given = {name: term(names[name]) for name in names}
            self.assertEqual(ask(self, put_in, term(text), given), term(told), (text, names))

    def test_deep_terms(self):
        for names in (100, 150, 300):
            deep = chain(names)
            self.assertEqual(ask(self, subterms, deep), sorted(chain(many) for many in range(1, names + 1)))
            self.assertEqual(things(deep), ["a"])
            self.assertEqual(put_in(deep, {"a": ("b",), "f": ("c",)}), chain(names, "b"))
        self.assertEqual(put_in(chain(60), {"a": chain(60)}), chain(119))

    def test_wide_terms(self):
        self.assertEqual(ask(self, subterms, WIDE), sorted([WIDE] + [(name,) for name in "abcdefghijklmnopqrstuvwxyz"]))
        self.assertEqual(ask(self, things, WIDE), list("abcdefghijklmnopqrstuvwxyz"))
        self.assertEqual(ask(self, put_in, WIDE, {name: ("a",) for name in "bcdefghijklmnopqrstuvwxyz"}),
                         ("f",) + (("a",),) * 104)

    def test_parts_that_stand_often(self):
        tree = ("a",)
        for _ in range(6):
            tree = ("f", tree, tree)
        self.assertEqual(len(ask(self, subterms, tree)), 7)
        self.assertEqual(things(tree), ["a"])

    def test_names_of_one_and_of_eight_letters(self):
        self.assertEqual(ask(self, closed, terms("abcdefgh(z) a(abcdefgh)")),
                         terms("a(abcdefgh) abcdefgh abcdefgh(z) z"))


if __name__ == "__main__":
    unittest.main()
