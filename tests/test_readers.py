"""Promises [111]: texts that are read back, and all else that writes nothing."""

import unittest

import texts
from helpers import ask, chances, claim, functions_of, program, random_functions, seen
from test_notation import CLAIMS, CODES, EDITS, FACTS, GUARDS, HUGE, PROGRAMS, TERMS, WORLDS

from answerskept.errors import NoText
from answerskept.notation import show_code, show_guard, show_program, show_term, show_world
from answerskept.programs import Program
from answerskept.readers import (read_claim, read_code, read_edit, read_fact, read_guard, read_program, read_term,
                                 read_world)

READERS = {"term": read_term, "code": read_code, "guard": read_guard, "fact": read_fact, "claim": read_claim, "world": read_world,
           "edit": read_edit, "program": read_program}
RIGHT = {"term": list(TERMS), "code": CODES, "guard": GUARDS, "fact": FACTS, "claim": CLAIMS, "world": list(WORLDS), "edit": list(EDITS),
         "program": PROGRAMS}
SIGNS = " ,.()=-\n01aZ~"


def twisted_texts(text):
    """Texts with a sign or a word left out, doubled, exchanged, put in, or turned about with the next one."""
    for at in range(len(text) + 1):
        yield text[:at] + text[at + 1:]
        yield text[:at] + text[at:at + 1] * 2 + text[at + 1:]
        yield text[:at] + text[at + 1:at + 2] + text[at:at + 1] + text[at + 2:]
        for sign in SIGNS:
            yield text[:at] + sign + text[at:]
            yield text[:at] + sign + text[at + 1:]
    for between in (" ", ",", ".", "\n", "="):
        parts = text.split(between)
        for at in range(len(parts)):
            yield between.join(parts[:at] + parts[at + 1:])
            yield between.join(parts[:at] + parts[at:at + 1] * 2 + parts[at + 1:])
            yield between.join(parts[:at] + parts[at + 1:at + 2] + parts[at:at + 1] + parts[at + 2:])
            for word in ("if", "tell", "yes", "no", "a", "with", "go", "()", "-", "0", "alike"):
                yield between.join(parts[:at] + [word] + parts[at:])
                yield between.join(parts[:at] + [word] + parts[at + 1:])


class ReadersTest(unittest.TestCase):
    def check(self, kind, text):
        """That a text is read as what it writes, or refused; whether it is read."""
        right = texts.read(kind, text)
        try:
            told = ask(self, READERS[kind], text)
        except NoText:
            self.assertIsNone(right, (kind, text))
            return False
        self.assertIsNotNone(right, (kind, text))
        if kind == "program":
            self.assertIs(type(told), Program)
            told = functions_of(told)
        self.assertEqual(seen(told), seen(right), (kind, text))
        return True

    def test_the_example(self):
        told = [read_claim("if a b yes no c") == claim("if a b yes no c"), read_edit("pick 3.1 f(a)"), read_code("go pick ()")]
        self.assertEqual(repr(told), "[True, ('pick', (3, 1), ('f', ('a',))), ('go', 'pick', ())]")

    def test_right_texts(self):
        for kind, rows in RIGHT.items():
            for text in rows:
                self.assertIs(self.check(kind, text), True, text)
        for text, thing in [*TERMS.items()]:
            self.assertEqual(read_term(text), thing)
        for text, thing in [*EDITS.items()]:
            self.assertEqual(read_edit(text), thing)
        for text, thing in WORLDS.items():
            self.assertEqual(list(read_world(text).items()), sorted(thing.items()))

    def test_texts_of_another_sort(self):
        for kind in READERS:
            for other, rows in RIGHT.items():
                for text in rows:
                    self.check(kind, text)
            for text in ("", " ", "\n", "-", "--", "a", "yes", "tell", "tell a", "if", "()", "(a)", "a=1", "a b", "pick", "~", "~" * 3000, "a" * 3000, "(" * 3000,
                         ")" * 3000, "tell " * 600, "if " * 1000, " " * 3000,
                         "\n" * 3000, "=" * 3000, "." * 3000, "," * 3000, "1" * 3000, "None", "True", "None()", "0", "yes no", "no a a", "go yes ()"):
                self.check(kind, text)

    def test_texts_that_are_far_too_deep(self):
        """They go beyond what is promised, and are refused or read all the same."""
        for kind in READERS:
            for text in ("f(" * 1500, "if a b " * 400 + "yes no", "with x " * 400, "go p (" * 500, "f(" * 900 + "a" + ")" * 899):
                self.assertRaises(NoText, READERS[kind], text)
        for read, show, text in [(read_term, show_term, "f(" * 900 + "a" + ")" * 900), (read_guard, show_guard, "if a b yes " * 270 + "no"),
                                 (read_guard, show_guard, "if a b " * 270 + "yes" + " no" * 270)]:
            self.assertEqual(show(read(text)), text)

    def test_kinds_that_are_read(self):
        for kind, text, told in [
                ("term", "tell", False), ("term", "f()", False), ("term", "f(a)b", False), ("term", "f (a)", False), ("term", "f(a, b)", False),
                ("term", "f(,a)", False), ("term", "f(a,)", False), ("term", "f(a", False), ("term", "f(a))", False), ("term", "(a)", False), ("term", "f((a))", False),
                ("term", "abcdefghi", False), ("term", "f(if)", False), ("term", "F(a)", False), ("term", "f(1)", False), ("term", "a\n", False), ("term", "f(a)(b)", False),
                ("term", "f(a(b)c)", False), ("term", "xf(a)", True), ("code", "tell  a", False), ("code", " tell a", False), ("code", "tell a ", False),
                ("code", "tell a tell b", False), ("code", "if a b tell a", False), ("code", "yes", False), ("code", "if a b yes no", False), ("code", "go p(a)", False),
                ("code", "go p (a,b,)", False), ("code", "go p (a, b)", False), ("code", "go p x(a)", False), ("code", "go p a", False), ("code", "go p ", False),
                ("code", "go p ()", True), ("code", "go if ()", False), ("code", "with x tell a", False), ("code", "with if tell a tell a", False),
                ("code", "with f(a) tell a tell a", False), ("code", "with x tell x tell x", True), ("code", "tell tell a", False), ("code", "if tell a b tell a tell b", False),
                ("guard", "yes yes", False), ("guard", "if a b yes tell a", False), ("guard", "if a b yes no", True), ("guard", "Yes", False), ("fact", "alike a", False),
                ("fact", "alike a b c", False), ("fact", "like a b", False), ("fact", "alike a yes", False), ("claim", "yes", False), ("claim", "yes a b", False),
                ("claim", "a yes", False), ("claim", "yes tell a", False), ("claim", "tell a a", False), ("claim", "yes no", False), ("claim", "yes yes a", False),
                ("world", "a=1 a=1", False), ("world", "b=1 a=1", False), ("world", "a=01", False), ("world", "a=00", False), ("world", "a=0", True), ("world", "a=-1", False),
                ("world", "f(01)=1", False), ("world", "f()=1", False), ("world", "f(a)=1", False), ("world", "f(1=1", False), ("world", "f1)=1", False), ("world", "a", False),
                ("world", "a=", False), ("world", "=1", False), ("world", "a==1", False), ("world", "a=1=1", False), ("world", "", False), ("world", "- ", False),
                ("world", "-=1", False), ("world", "a=1 -", False), ("world", "f(10)=0 f(2)=0", False), ("world", "f(2)=0 f(10)=0", True), ("world", "a=+1", False),
                ("world", "a=1_0", False), ("world", "f(1,)=1", False), ("world", "f(1)(2)=1", False), ("world", "f(1)2=1", False), ("world", "if=1", False),
                ("edit", "pick 3.1", False), ("edit", "pick 03 a", False), ("edit", "pick 3. a", False), ("edit", "pick .3 a", False), ("edit", "pick 3..1 a", False),
                ("edit", "pick -- a", False), ("edit", "pick -1 a", False), ("edit", "pick 3 1 a", False), ("edit", "pick - yes", False), ("edit", "pick a b", False),
                ("edit", "pick 3 a tell b", False), ("edit", "if 3 a", False), ("edit", "pick 0 a", True), ("edit", "pick 3,1 a", False), ("edit", "3 pick a", False),
                ("program", "p a tell a", False), ("program", "p a tell a\n\n", False), ("program", "\np a tell a\n", False), ("program", "p a,a tell a\n", False),
                ("program", "p  tell a\n", False), ("program", "p a, tell a\n", False), ("program", "p tell a\n", False), ("program", "q a tell a\np a tell a\n", False),
                ("program", "p a tell a\np a tell a\n", False), ("program", "p a tell b\n", False), ("program", "p a go p (a)\n", False), ("program", "p a go q (a)\n", False),
                ("program", "p a go q ()\nq a tell a\n", False), ("program", "p a yes\n", False), ("program", "p a tell a\n ", False), ("program", "p a b tell a\n", False),
                ("program", "p a go q (a)\nq b tell b\n", True), ("program", "P a tell a\n", False), ("program", "p a alike a a\n", False)]:
            self.assertIs(self.check(kind, text), told, (kind, text))

    def test_twisted_texts(self):
        counts = {}
        for kind, rows in RIGHT.items():
            for text in rows:
                for other in {*twisted_texts(text)}:
                    told = self.check(kind, other)
                    counts[kind, told] = counts.get((kind, told), 0) + 1
        self.assertEqual(len(counts), 16)
        self.assertGreater(min(counts.values()), 30, counts)

    def test_long_numbers(self):
        for text in (f"a={HUGE}", f"f({HUGE},1)=0", "a=" + "9" * 40, "f(0)=1" + "0" * 39):
            self.assertIs(self.check("world", text), True)
        self.assertIs(self.check("world", "a=0" + "9" * 39), False)
        self.assertIs(self.check("edit", f"p {HUGE}.{HUGE} a"), True)

    def test_large_texts(self):
        """Three thousand signs, thirty deep."""
        wide = "g(" + ",".join(["f(a,b)"] * 400) + ")"
        deep = "f(" * 29 + "a" + ")" * 29
        for kind, text in [("term", wide), ("term", deep), ("code", f"if {deep} {deep} tell {deep} tell {wide}".replace("f(a,b)", "ab")), ("code", f"go p ({wide})"),
                           ("code", "with x tell a " * 200 + "tell x"), ("guard", "if a b yes " * 270 + "no"), ("claim", "if a b yes " * 200 + f"no {deep}"),
                           ("world", " ".join(f"f({at})={at}" for at in range(300))), ("edit", "p " + ".".join(["1"] * 1400) + " a"),
                           ("program", f"p a tell {deep.replace('b', 'a')}\n" + "q a " + "with x tell a " * 180 + "tell x\n")]:
            self.check(kind, text)
            self.check(kind, text + " ")
        self.assertIs(self.check("term", wide), True)
        self.assertIs(self.check("world", " ".join(f"f({at})={at}" for at in range(300))), True)

    def test_read_back(self):
        for seed in range(120):
            rows = random_functions(chances(seed))
            made = Program(rows)
            self.assertIs(read_program(show_program(made)) == made, True)
            for each in rows.values():
                self.assertEqual(read_code(show_code(each[1])), each[1])

    def test_worlds_with_keys_in_any_order(self):
        for text, world in WORLDS.items():
            self.assertEqual(show_world(world), text)
            self.assertEqual(list(read_world(show_world(world))), sorted(world))

    def test_what_is_read_is_new(self):
        first = read_world("a=1 b=2")
        first.clear()
        self.assertEqual(read_world("a=1 b=2"), {("a",): 1, ("b",): 2})
        first = read_program("p a tell a\n")
        self.assertIs(first == program("p a tell a"), True)

    def test_what_was_asked_ahead_changes_nothing(self):
        first = [(kind, text, seen(READERS[kind](text))) for kind, rows in RIGHT.items() for text in rows]
        for kind, text, told in first[::-1]:
            self.assertEqual(seen(READERS[kind](text)), told)


if __name__ == "__main__":
    unittest.main()
