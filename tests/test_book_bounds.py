"""Books, desks and texts at the bounds of [4], each answered within a moment, and rightly."""

import unittest

import oracle
import texts
from bounds import QuickTest, large_code, thirty_keys
from helpers import chances, of_ways, seen, terms
from ledgers import Ledger
from test_books import told_of

from answerskept.books import Book
from answerskept.desk import Desk
from answerskept.notation import show_code, show_program, show_world
from answerskept.programs import Program
from answerskept.readers import read_code, read_program, read_term, read_world

FIVE = terms("a b c d e")
NAMES = [each[0] for each in FIVE]
EDITORS = ("ann", "bob", "cid", "dan")


def large_functions(chance):
    """Four functions of five givens, one of them with a whole code of sixteen ways over seven terms."""
    pool = FIVE + terms("f(a) g(b,c)")
    return {
        "p": (NAMES, ("with", "x", ("go", "q", tuple(FIVE)), ("go", "r", tuple(FIVE)))), "q": (NAMES, large_code(chance, pool, 4)),
        "r": (NAMES, ("if", ("a",), ("b",), ("go", "s", tuple(FIVE)), ("go", "s", tuple(FIVE)))), "s": (NAMES, large_code(chance, pool, 2))}


def large_deeds(chance, rows):
    """Four editors who join, six claims of sixteen ways, and edits of all sorts; most can be done."""
    pool = FIVE + terms("f(a) g(b,c)")
    yield from [("join", editor) for editor in EDITORS]
    whole = oracle.whole(rows, "p")
    found = chance.sample(of_ways(whole), 6)
    yield from [("claim", "p") + one for one in found[:3]]
    yield ("claim", "p", large_code(chance, pool, ends=[("yes",), ("no",)]), chance.choice(pool))
    for _ in range(9):
        name = chance.choice("qs")
        places = [place for place, part in oracle.places_of(rows[name][1]).items() if oracle.is_term(part)]
        yield ("edit", chance.choice(EDITORS), name, chance.choice(places), chance.choice(pool))
    yield from [("claim", "p") + one for one in found[3:]]
    yield from [("drop", chance.choice(EDITORS), 0), ("free", 0)]


class BookBoundsTest(QuickTest):
    def test_books_and_desks(self):
        found = {}
        for seed in range(4):
            chance = chances(seed)
            rows = large_functions(chance)
            self.assertEqual(len(oracle.ways(oracle.whole(rows, "p"))), 16)
            book, desk, ledger = Book(Program(rows)), Desk(Program(rows)), Ledger(rows)
            for deed in large_deeds(chance, rows):
                if sum(each[0] == "edit" for each in ledger.log) == 6 and deed[0] == "edit":
                    continue
                right = ledger.do(deed)
                told = self.quick(lambda: told_of(Book.do, book.copied(), deed))
                self.assertEqual(told and told[:2], right and right[:2], deed)
                told_of(book.do, deed)
                self.assertEqual(self.quick(lambda: desk.book().trial([deed]).log()) if right is None else told_of(book.trial, [deed]),
                                 ledger.log if right is None else ("Stopped", 0))
                self.assertEqual(desk.execute(texts.shown_deed(deed)), "refused " + right[0] if right else "done")
                found[right and right[0]] = found.get(right and right[0], 0) + 1
            sheets, claims, made = ledger.state()
            self.assertEqual((seen(book.program), book.claims(), book.log()), (seen(Program(made)), claims, ledger.log))
            self.assertIs(desk.book() == book, True)
            for name in rows:
                self.assertEqual(self.quick(book.word, name), ledger.word(name))
                self.assertEqual(self.quick(desk.execute, "whole " + name), texts.shown(oracle.whole(made, name)))
            world = thirty_keys(chance, FIVE)
            self.assertEqual(self.quick(desk.execute, "run p " + texts.shown_world(world)), str(oracle.ran(made, "p", world)))
            while len(book):
                self.quick(lambda: book.copied().back())
                self.assertEqual(texts.shown_deed(book.back()), desk.execute("back"))
        self.assertGreater(found[None], 30, found)
        self.assertGreater(len(found), 2, found)

    def test_texts(self):
        for seed in range(4):
            chance = chances(seed)
            rows = large_functions(chance)
            text = self.quick(show_program, Program(rows))
            self.assertEqual(text, texts.shown_program(rows))
            self.assertIs(self.quick(read_program, text) == Program(rows), True)
            whole = oracle.whole(rows, "p")
            self.assertEqual(self.quick(read_code, self.quick(show_code, whole)), whole)
            world = thirty_keys(chance, FIVE)
            self.assertEqual(self.quick(read_world, self.quick(show_world, world)), world)
        wide = "g(" + ",".join(["f(a,b)"] * 420) + ")"
        self.assertEqual(self.quick(read_term, wide), texts.read("term", wide))
        deep = "if " + "f(" * 29 + "a" + ")" * 29 + " b " + "if a b " * 29 + "tell " + " tell ".join("a" * 31)
        self.assertEqual(self.quick(read_code, deep), texts.read("code", deep))


if __name__ == "__main__":
    unittest.main()
