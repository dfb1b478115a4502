"""Promises [121]: lines and their answers."""

import unittest

from helpers import any_values, chances, functions, program, seen
from ledgers import Ledger
from test_books import MANY, PLAN, book_of, random_deeds
from test_readers import twisted_texts
from texts import shown_deed

from answerskept import errors
from answerskept.books import Book
from answerskept.desk import Desk
from answerskept.notation import show_code, show_program
from answerskept.programs import Program
from answerskept.whole import whole

INNER = "p a,b,c with x tell a with y tell x tell y"
NINES = "9" * 40


class DeskTest(unittest.TestCase):
    def told(self, desk, line):
        """What a desk answers, or None for a line that is none."""
        try:
            told = desk.execute(line)
        except errors.NoCommand:
            return None
        self.assertIs(type(told), str)
        return told

    def check(self, text, *rows):
        """Lines with their answers; a desk and a ledger must both give these."""
        desk, ledger = Desk(program(text)), Ledger(functions(text))
        for line, right in rows:
            before = seen(desk)
            self.assertEqual(ledger.execute(line), right, line)
            self.assertEqual(self.told(desk, line), right, line)
            if right is None or right.startswith("refused"):
                self.assertEqual(seen(desk), before)
            self.assertEqual(desk.book().log(), ledger.log)
        return desk

    def test_the_example(self):
        desk = Desk(program(PLAN))
        told = [desk.execute(line) for line in ["join ann", "edit ann pick 2 c", "claim pick if a c yes no d", "drop ann 0", "word pick"]]
        self.assertEqual(told, ["done", "done", "done", "refused Broken", "kept"])
        told = [desk.execute(line) for line in ["join bob", "edit bob pick 3.1 e", "run pick a=1 b=2 c=1 d=3 e=4", "back", "claims"]]
        self.assertEqual(told, ["done", "refused Broken", "3", "join bob", "pick"])

    def test_deeds(self):
        self.check(PLAN, ("join ann", "done"), ("join ann", "refused Taken"), ("edit bob pick 2 c", "refused NoEditor"), ("drop bob 0", "refused NoEditor"),
                   ("edit ann none 2 c", "refused NoFunction"), ("edit ann pick 9 c", "refused NoPlace"), ("edit ann pick 2 tell c", "refused NoPlace"),
                   ("drop ann 0", "refused NoNumber"), ("edit ann pick 2 c", "done"), ("edit ann pick 2 d", "refused Overlap"),
                   ("edit ann pick 3 go none (a)", "refused Missing"), ("edit ann pick 3 go pick (a)", "refused Uneven"), ("edit ann pick 3 go pick (a,b,c,d,e)", "refused Round"),
                   ("edit ann pick 3 tell x", "refused Loose"), ("join bob", "done"), ("edit bob pick 2 e", "refused Clash"), ("edit bob pick 2 c", "done"),
                   ("claim none yes a", "refused NoFunction"), ("claim pick yes a", "refused Broken"), ("claim pick if a c yes no d", "done"), ("free 1", "refused NoNumber"),
                   ("drop bob 0", "done"), ("drop ann 0", "refused Broken"), ("free 0", "done"), ("drop ann 0", "done"), ("editors", "ann bob"),
                   ("edit ann pick - with x tell a tell x", "done"), ("code pick", "with x tell a tell x"), ("whole pick", "tell a"))

    def test_back_and_again(self):
        self.check(PLAN, ("back", "nothing"), ("again", "nothing"), ("join ann", "done"), ("edit ann pick 3.1 f(a,b)", "done"), ("claim pick if a b yes no f(b,a)", "done"),
                   ("free 0", "done"), ("drop ann 0", "done"), ("edit ann pick - if a b tell c go pick (a)", "refused Uneven"), ("back", "drop ann 0"), ("back", "free 0"),
                   ("back", "claim pick if a b yes no f(b,a)"), ("again", "claim pick if a b yes no f(b,a)"), ("join ann", "refused Taken"), ("again", "free 0"),
                   ("word none", "refused NoFunction"), ("again ", None), ("again", "drop ann 0"), ("again", "nothing"), ("back", "drop ann 0"), ("join bob", "done"), ("again", "nothing"),
                   ("back", "join bob"), ("back", "free 0"), ("back", "claim pick if a b yes no f(b,a)"), ("back", "edit ann pick 3.1 f(a,b)"), ("back", "join ann"),
                   ("back", "nothing"), ("editors", "-"), ("again", "join ann"), ("editors", "ann"))
        self.check(PLAN, ("join ann", "done"), ("edit ann pick - if a b tell c tell d", "done"), ("back", "edit ann pick - if a b tell c tell d"))
        self.check(MANY, ("join ann", "done"), ("edit ann p 3.2.0 f(a)", "done"), ("back", "edit ann p 3.2.0 f(a)"))

    def test_questions(self):
        self.check(MANY, ("code p", "if a b go q (a) tell b"), ("whole p", "if a b tell f(a) tell b"), ("code r", "with x go p (a,b) if x a tell x tell b"),
                   ("whole r", "if a b if f(a) a tell f(a) tell b if b a tell b tell b"), ("word r", "kept"), ("editors", "-"), ("claims", "-"),
                   ("run q -", "0"), ("run q a=1", "0"), ("run q a=1 f(1)=7", "7"), ("run p b=4", "4"), ("run p a=4 b=4 f(4)=2", "2"), ("run q f(0)=" + NINES, NINES),
                   ("program", MANY + "\n"), ("code none", "refused NoFunction"), ("whole none", "refused NoFunction"), ("word none", "refused NoFunction"),
                   ("run none a=1", "refused NoFunction"), ("run none a=01", None), ("join ann", "done"), ("edit ann q 1 a", "done"), ("code q", "tell a"), ("whole p", "if a b tell a tell b"),
                   ("run p a=4 b=4 f(4)=2", "4"), ("claim p yes b", "done"), ("claim r yes b", "done"), ("claim q yes f(a)", "refused Broken"), ("claim p no a", "done"),
                   ("claims", "p r p"), ("editors", "ann"), ("free 1", "done"), ("claims", "p p"), ("program", MANY.replace("f(a)", "a") + "\n"))

    def test_words(self):
        self.check(PLAN, ("word pick", "kept"), ("join ann", "done"), ("join bob", "done"), ("edit ann pick 2 c", "done"), ("edit bob pick 3.1 e", "done"), ("word pick", "lost"))
        self.check(INNER, ("join ann", "done"), ("join bob", "done"), ("edit ann p 2.1 b", "done"), ("edit bob p 3.2 if c a tell x tell c", "done"), ("word p", "quarrel"))

    def test_lines_that_are_none(self):
        desk = Desk(program(PLAN))
        for line in ["join ann", "edit ann pick 2 c", "claim pick no a"]:
            desk.execute(line)
        desk.execute("join bob")
        desk.execute("back")
        before = seen(desk)
        for line in ["", " ", "\n", "join", "join ", " join cid", "join  cid", "join cid ", "join cid dan", "join if", "join Cid", "join cid\n", "Join cid", "edit", "edit ann",
                     "edit ann pick", "edit ann pick 2", "edit ann pick 2 ", "edit ann pick 2 c d", "edit ann pick 02 c", "edit ann pick 2. c", "edit ann pick 2 yes", "edit ann pick 2  c",
                     "edit ann pick - - c", "edit pick 2 c", "edit ann 2 pick c", "edit ann pick 2 tell", "edit ann pick 2 c()", "edit if pick 2 c", "edit ann if 2 c", "drop ann", "drop 0",
                     "drop ann 00", "drop ann -1", "drop ann +1", "drop ann a", "drop ann 0 0", "drop ann 0 ", "drop ann  0", "drop ann yes", "free", "free -1", "free 01", "free a", "free 0 0",
                     "free ann 0", "free 0\n", "free yes", "claim pick", "claim pick yes", "claim pick a yes", "claim yes a", "claim pick yes a b", "claim pick yes tell a", "claim pick if a b yes a",
                     "claim pick tell a a", "claim if yes a", "claim pick no  a", "back ", " back", "back 1", "again again", "Back", "editors ", "editors a", "claims pick", "program pick",
                     "program\n", "code", "code ", "code pick ", "code pick pick", "code  pick", "code if", "code Pick", "code tell a", "whole", "whole pick -", "word", "word pick a", "words pick",
                     "run", "run pick", "run pick ", "run pick  -", "run pick - ", "run pick a", "run pick a=1 a=1", "run pick b=1 a=1", "run pick a=01", "run pick a=-1", "run pick - a=1",
                     "run a=1", "run if -", "run pick a=1\n", "run pick a=1  b=1", "log", "len", "sheet ann", "copied", "trial", "do join cid", "pick", "none", "yes", "tell a", "if", "~" * 3000,
                     "code " * 600, "join " + "a" * 2995, "(" * 3000, "free 1" + "0" * 40, "drop ann " + "9" * 41, "edit ann pick 1" + "0" * 40 + " c", "run pick a=1" + "0" * 40]:
            self.assertIsNone(self.told(desk, line), line)
            self.assertEqual(seen(desk), before, line)
        self.assertEqual(desk.execute("again"), "join bob")

    def test_numbers_of_forty_digits(self):
        self.check(PLAN, ("join ann", "done"), ("free " + NINES, "refused NoNumber"), ("drop ann " + NINES, "refused NoNumber"), ("free 9" + NINES, None), ("drop ann 9" + NINES, None),
                   (f"edit ann pick {NINES}.{NINES} c", "refused NoPlace"), (f"edit ann pick 9{NINES} c", None), (f"run pick a={NINES}", NINES), (f"run pick a=9{NINES}", None),
                   (f"run pick f({NINES})={NINES}", "0"), (f"run pick f(9{NINES})=1", None), ("free 0" + NINES[1:], None))

    def test_twisted_lines(self):
        counts = {}
        lines = ["join bob", "edit ann pick 3.1 f(a)", "edit ann pick - tell a", "drop ann 0", "claim pick if a c yes no d", "free 0", "back", "again", "code pick", "whole pick",
                 "word pick", "run pick a=1 f(1)=2", "run pick -", "editors", "claims", "program"]
        for line in lines:
            for other in {*twisted_texts(line), line}:
                desk, ledger = Desk(program(PLAN)), Ledger(functions(PLAN))
                for ahead in ("join ann", "edit ann pick 2 c", "claim pick no a"):
                    self.assertEqual(desk.execute(ahead), ledger.execute(ahead))
                right = ledger.execute(other)
                self.assertEqual(self.told(desk, other), right, other)
                kind = right and right.split(" ")[0]
                counts[kind] = counts.get(kind, 0) + 1
        self.assertGreater(counts[None], 1000)
        self.assertGreater(counts["done"], 20)
        self.assertGreater(counts["refused"], 20)

    def test_random_lines(self):
        """What a desk answers is what a ledger does, and what its book tells."""
        for seed in range(40):
            chance = chances(seed)
            text = (PLAN, MANY, INNER)[seed % 3]
            desk, ledger = Desk(program(text)), Ledger(functions(text))
            lines = [shown_deed(each) for each in random_deeds(chance, functions(text), 12)]
            name = chance.choice(list(functions(text)))
            for line in lines:
                more = chance.choice(["back", "again", "editors", "claims", "program", f"code {name}", f"whole {name}", f"word {name}", f"run {name} a=1 b=2 f(1)=2", "none"])
                for each in (line, more):
                    self.assertEqual(self.told(desk, each), ledger.execute(each), (lines, each))
            book = desk.book()
            self.assertEqual(book.log(), ledger.log)
            self.assertEqual(desk.execute(f"whole {name}"), show_code(whole(book.program, name)))
            self.assertEqual(desk.execute(f"word {name}"), book.word(name))
            self.assertEqual(desk.execute("program"), show_program(book.program))

    def test_the_book_is_a_copy(self):
        desk = Desk(program(PLAN))
        for line in ("join ann", "edit ann pick 2 c", "join bob"):
            desk.execute(line)
        desk.execute("back")
        book = desk.book()
        self.assertIs(type(book), Book)
        self.assertIs(book == book_of(PLAN, "join ann", "edit ann pick 2 c"), True)
        self.assertEqual(book.again(), ("join", "bob"))
        book.do(("join", "cid"))
        self.assertEqual(desk.execute("editors"), "ann")
        self.assertEqual(desk.execute("again"), "join bob")
        self.assertEqual(book.editors(), ["ann", "bob", "cid"])

    def test_base_is_any_value(self):
        for thing in any_values() + [functions(PLAN), [program(PLAN)], Book(program(PLAN)), PLAN]:
            if not isinstance(thing, Program):
                with self.assertRaises(errors.Wrong) as held:
                    Desk(thing)
                self.assertEqual(held.exception.place, 0)
        self.assertIs(Desk(program(PLAN)).book().base == program(PLAN), True)


if __name__ == "__main__":
    unittest.main()
