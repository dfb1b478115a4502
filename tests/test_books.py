"""Promises [120], and of [3], [4] and [8] what they say of books."""

import itertools
import unittest

import oracle
from helpers import any_values, ask, chances, claim, code, functions, functions_of, of_ways, program, seen, spoil, term, twisted
from ledgers import Ledger, is_deed

from answerskept import errors
from answerskept.books import Book
from answerskept.claims import keeps_claim
from answerskept.merging import merged, verdict
from answerskept.programs import Program
from answerskept.whole import whole

PLAN = "pick a,b,c,d,e if a b tell d tell a"
MANY = "p a,b if a b go q (a) tell b\nq a tell f(a)\nr a,b with x go p (a,b) if x a tell x tell b"


def told_of(call, *arguments):
    """What a call tells, or the tuple (error, argument ..) that it raises."""
    try:
        return call(*arguments)
    except errors.KeptError as error:
        return (type(error).__name__,) + tuple(vars(error).values())


def deed(text):
    """The deed that a line writes: places with points."""
    word, *parts = text.split(" ")
    if word == "edit":
        place = () if parts[2] == "-" else tuple(map(int, parts[2].split(".")))
        return ("edit", parts[0], parts[1], place, code(" ".join(parts[3:])) if len(parts) > 4 else term(parts[3]))
    if word == "claim":
        return ("claim", parts[0]) + claim(" ".join(parts[1:]))
    return (word,) + tuple(int(part) if part.isdigit() else part for part in parts)


def book_of(text, *lines):
    made = Book(program(text))
    for line in lines:
        made.do(deed(line))
    return made


def random_deeds(chance, base, many):
    """Deeds of which most can be done."""
    names = list(base)
    for _ in range(many):
        word = chance.choice(("join", "edit", "edit", "edit", "drop", "claim", "claim", "free"))
        editor, function = chance.choice(("ann", "bob", "cid", "dan")[:chance.randint(1, 4)]), chance.choice(names)
        if word == "join":
            yield ("join", editor)
        elif word == "edit":
            rows = oracle.places_of(base[function][1])
            place = chance.choice(sorted(rows))
            givens = [(name,) for name in base[function][0]]
            part = chance.choice(givens + [("f", each) for each in givens])
            if not oracle.is_term(rows[place]):
                part = chance.choice([("tell", part), ("if", givens[0], part, ("tell", givens[-1]), rows[place]),
                                      ("with", "x", ("tell", part), ("tell", ("x",)))])
            yield ("edit", editor, chance.choice([function] * 9 + ["none"]), chance.choice([place] * 9 + [place + (1,)]), part)
        elif word == "drop":
            yield ("drop", editor, chance.choice((0, 0, 1, 2, -1)))
        elif word == "claim":
            one = chance.choice(of_ways(oracle.whole(base, function)))
            yield ("claim", function) + chance.choice([one, one, (("yes",), one[1])])
        else:
            yield ("free", chance.choice((0, 0, 1, -1)))


class BookTest(unittest.TestCase):
    def check(self, book, ledger):
        """That a book tells all that the document says of its deeds."""
        sheets, claims, made = ledger.state()
        self.assertEqual(ask(self, book.log), ledger.log)
        self.assertEqual(len(book), len(ledger.log))
        self.assertEqual(ask(self, book.editors), list(sheets))
        self.assertEqual({name: ask(self, book.sheet, name) for name in sheets}, sheets)
        self.assertEqual(ask(self, book.claims), claims)
        self.assertEqual(functions_of(book.base), functions_of(Program(ledger.base)))
        self.assertEqual(functions_of(book.program), functions_of(Program(made)))
        for function, guard, end in claims:
            self.assertIs(keeps_claim(whole(book.program, function), (guard, end)), True)

    def do(self, book, ledger, each):
        """Do a deed in a book and in a ledger; why it is refused, or None."""
        before = seen(each)
        told = told_of(book.do, each)
        right = ledger.do(each)
        self.assertEqual(seen(each), before)
        if right and right[0] == "Broken":
            self.assertEqual(told[:2], right, each)
            self.check_broken(ledger, each, *told[1:])
        else:
            self.assertEqual(seen(told), seen(right), each)
        return right

    def check_broken(self, ledger, each, number, world):
        """That the claim with a number would be broken in a world."""
        self.assertTrue(oracle.is_world(world))
        self.assertEqual(list(world), sorted(world))
        sheets, claims, made = ledger.state(ledger.log + [each])
        function, guard, end = claims[number]
        self.assertTrue(oracle.breaks(oracle.whole(made, function), (guard, end), world))

    def test_the_example(self):
        book = Book(program(PLAN))
        told = [book.do(("join", "ann")), book.do(("edit", "ann", "pick", (2,), ("c",))),
                book.do(("claim", "pick", code("if a c yes no"), ("d",))), book.word("pick")]
        self.assertEqual(repr(told), "[None, None, None, 'kept']")
        told = [book.do(("join", "bob")), len(book), book.sheet("ann"), book.program.code("pick")[2], book.back()]
        self.assertEqual(repr(told), "[None, 4, [('pick', (2,), ('c',))], ('c',), ('join', 'bob')]")

    def test_each_deed_and_each_refusal(self):
        """Lines of deeds that are done, and then one with what it is refused for."""
        for text, lines, last, right in [
                (PLAN, [], "join ann", None), (PLAN, ["join ann"], "join ann", ("Taken", "ann")), (PLAN, ["join ann"], "join bob", None),
                (PLAN, [], "edit ann pick 2 c", ("NoEditor", "ann")), (PLAN, ["join ann"], "edit bob pick 2 c", ("NoEditor", "bob")),
                (PLAN, ["join ann"], "edit ann pick 2 c", None), (PLAN, ["join ann"], "edit ann none 2 c", ("NoFunction", "none")),
                (PLAN, ["join ann"], "edit ann pick 5 c", ("NoPlace", (5,))), (PLAN, ["join ann"], "edit ann pick 2 tell c", ("NoPlace", (2,))),
                (PLAN, ["join ann"], "edit ann pick 3 c", ("NoPlace", (3,))), (PLAN, ["join ann"], "edit ann pick - c", ("NoPlace", ())),
                (PLAN, ["join ann"], "edit ann pick - tell e", None), (PLAN, ["join ann"], "edit ann pick 2 x", ("Loose", "pick", "x")),
                (PLAN, ["join ann"], "edit ann pick 3 go none (a)", ("Missing", "none")), (PLAN, ["join ann"], "edit ann pick 3 go pick (a)", ("Uneven", "pick")),
                (PLAN, ["join ann"], "edit ann pick 3 go pick (a,b,c,d,e)", ("Round", "pick")),
                (PLAN, ["join ann", "edit ann pick 3.1 e"], "edit ann pick 3 tell e", ("Overlap", 0, 1)),
                (PLAN, ["join ann", "edit ann pick 2 c"], "edit ann pick 2 c", ("Overlap", 0, 1)),
                (PLAN, ["join ann", "edit ann pick 2 c", "edit ann pick 3 tell e"], "edit ann pick 3.1 e", ("Overlap", 1, 2)),
                (PLAN, ["join ann", "join bob", "edit bob pick 2 c"], "edit ann pick 2 d", ("Clash", (0, 0), (1, 0))),
                (PLAN, ["join ann", "join bob", "edit bob pick 2 c"], "edit ann pick 2 c", None),
                (PLAN, ["join bob", "join ann", "edit bob pick 4 tell a", "edit bob pick 3.1 c"], "edit ann pick 3 tell c", ("Clash", (0, 1), (1, 0))),
                (PLAN, [], "drop ann 0", ("NoEditor", "ann")), (PLAN, ["join ann"], "drop ann 0", ("NoNumber", 0)),
                (PLAN, ["join ann", "edit ann pick 2 c"], "drop ann 1", ("NoNumber", 1)), (PLAN, ["join ann", "edit ann pick 2 c"], "drop ann 0", None),
                (PLAN, ["join ann", "edit ann pick 2 c", "join bob"], "drop bob 0", ("NoNumber", 0)),
                (PLAN, [], "claim none yes a", ("NoFunction", "none")), (PLAN, [], "claim pick if a b yes no d", None), (PLAN, [], "claim pick yes d", ("Broken", 0)),
                (PLAN, [], "claim pick no e", None), (PLAN, ["claim pick no e"], "claim pick yes a", ("Broken", 1)), (PLAN, [], "free 0", ("NoNumber", 0)),
                (PLAN, ["claim pick no e"], "free 1", ("NoNumber", 1)), (PLAN, ["claim pick no e"], "free 0", None),
                (PLAN, ["join ann", "claim pick if a b yes no d"], "edit ann pick 2 c", ("Broken", 0)),
                (PLAN, ["join ann", "claim pick no a", "claim pick if a b yes no d"], "edit ann pick 2 c", ("Broken", 1)),
                (PLAN, ["join ann", "edit ann pick 2 c", "claim pick if a c yes no d"], "drop ann 0", ("Broken", 0)),
                (PLAN, ["join ann", "edit ann pick 2 c", "claim pick if a c yes no d", "free 0"], "drop ann 0", None),
                (MANY, ["join ann", "edit ann p 3 tell a"], "edit ann q - go p (a,a)", None), (MANY, ["join ann"], "edit ann q - go p (a,a)", ("Round", "p")),
                (MANY, ["join ann", "edit ann p 3 tell a", "edit ann q - go p (a,a)"], "drop ann 0", ("Round", "p")),
                (MANY, ["join ann", "edit ann p 3 tell a", "edit ann q - go p (a,a)"], "drop ann 1", None),
                (MANY, ["join ann", "join bob", "edit ann p 3 tell a"], "edit bob q - go p (a,a)", ("Round", "p")),
                # The sheet alone must do, though with those of others it would.
                (MANY, ["join ann", "join bob", "edit ann p 3 tell a", "edit ann q - go p (a,a)", "edit bob p 3 tell a"], "drop ann 0", ("Round", "p")),
                (MANY, ["join ann", "join bob", "edit ann p 3 tell a", "edit ann q - go p (a,a)", "edit bob p 3 tell a"], "drop bob 0", None),
                ("p a if a a tell a tell a\nq a tell a", ["join ann", "join bob", "edit ann p 3 go q (a)"], "edit bob q - go p (a)", ("Round", "p")),
                ("p a if a a tell a tell a\nq a tell a", ["join ann", "join bob", "edit ann p 3 go q (a)", "claim p yes a"], "edit bob p 4 tell f(a)", None),
                (MANY, ["claim r if a b no yes b"], "claim r if a b yes no f(f(a))", ("Broken", 1)), (MANY, ["join ann", "claim q yes f(a)"], "edit ann q 1 a", ("Broken", 0))]:
            book, ledger = Book(program(text)), Ledger(functions(text))
            for line in lines:
                self.assertIsNone(self.do(book, ledger, deed(line)), line)
            kept = seen(book)
            self.assertEqual(self.do(book, ledger, deed(last)), right, (lines, last))
            self.assertEqual(seen(book) == kept, right is not None)
            self.check(book, ledger)

    def test_the_first_of_two_refusals(self):
        for lines, last, right in [
                ([], "edit ann none 9 c", ("NoEditor", "ann")), (["join ann"], "edit ann none 9 c", ("NoFunction", "none")), ([], "drop ann 7", ("NoEditor", "ann")),
                (["join ann"], "edit ann pick 9 go none ()", ("NoPlace", (9,))), (["join ann"], "edit ann pick 2 tell x", ("NoPlace", (2,))),
                (["join ann", "edit ann pick 3 tell c"], "edit ann pick 3.1 x", ("Overlap", 0, 1)),
                (["join ann", "join bob", "edit bob pick 2 c", "edit ann pick 3.1 c"], "edit ann pick - tell x", ("Overlap", 0, 1)),
                (["join ann", "join bob", "edit bob pick 2 c"], "edit ann pick 2 x", ("Loose", "pick", "x")),
                (["join ann", "join bob", "edit bob pick 2 c"], "edit ann pick - go none (x)", ("Missing", "none")),
                (["join ann", "join bob", "edit bob pick 2 b", "claim pick if a b yes no d"], "edit ann pick 2 c", ("Clash", (0, 0), (1, 0))),
                (["join ann", "claim pick no d", "claim pick if a b yes no d", "claim pick if a b no yes a"], "edit ann pick - tell e", ("Broken", 1)),
                (["claim pick if a b yes no d"], "claim none yes a", ("NoFunction", "none"))]:
            book, ledger = Book(program(PLAN)), Ledger(functions(PLAN))
            for line in lines:
                self.assertIsNone(self.do(book, ledger, deed(line)), line)
            self.assertEqual(self.do(book, ledger, deed(last)), right, (lines, last))
            self.check(book, ledger)

    def test_negative_and_huge_numbers(self):
        book, ledger = Book(program(PLAN)), Ledger(functions(PLAN))
        for each in [("join", "ann"), ("edit", "ann", "pick", (2,), ("c",)), ("claim", "pick", ("no",), ("a",)), ("drop", "ann", -1), ("free", -1),
                     ("drop", "ann", 10 ** 39), ("free", 10 ** 39), ("free", 1), ("edit", "ann", "pick", (-1,), ("c",)), ("edit", "ann", "pick", (10 ** 39,), ("c",)),
                     ("drop", "ann", True), ("free", False), ("edit", "ann", "pick", (True,), ("c",)), ("edit", "ann", "pick", (3, True), ("c",))]:
            self.do(book, ledger, each)
        self.assertEqual(len(book), 3)
        self.assertEqual(told_of(book.do, ("drop", "ann", -1)), ("NoNumber", -1))
        self.assertEqual(told_of(book.do, ("free", False)), ("NoDeed",))

    def test_any_deed(self):
        book, ledger = book_of(PLAN, "join ann"), Ledger(functions(PLAN))
        ledger.do(("join", "ann"))
        for thing in any_values():
            for each in (thing, (thing,), ("join", thing), (thing, "ann"), ("edit", thing, "pick", (2,), ("c",)), ("edit", "ann", thing, (2,), ("c",)),
                         ("edit", "ann", "pick", thing, ("c",)), ("edit", "ann", "pick", (thing,), ("c",)), ("edit", "ann", "pick", (2,), thing),
                         ("drop", thing, 0), ("drop", "ann", thing), ("claim", thing, ("yes",), ("a",)), ("claim", "pick", thing, ("a",)),
                         ("claim", "pick", ("no",), thing), ("free", thing), [thing], {"join": thing}):
                self.assertEqual(told_of(book.do, each) and told_of(book.do, each)[0], (ledger.refusal(each) or (None,))[0], seen(each))
                while len(book) > 1:
                    book.back()

    def test_twisted_deeds(self):
        counts = {}
        for line in ("join bob", "edit ann pick 3.1 f(a)", "edit ann pick 3 if a b tell a tell b", "drop ann 0", "claim pick if a c yes no d", "free 0"):
            for each in twisted(deed(line)):
                book, ledger = book_of(PLAN, "join ann", "edit ann pick 2 c", "claim pick no a"), Ledger(functions(PLAN))
                ledger.log = book.log()
                told = self.do(book, ledger, each)
                self.assertIs(told == ("NoDeed",), not is_deed(each))
                counts[told and told[0]] = counts.get(told and told[0], 0) + 1
        self.assertGreater(len(counts), 6, counts)

    def test_base_is_any_value(self):
        for thing in any_values() + [functions(PLAN), [program(PLAN)], (program(PLAN),)]:
            if not isinstance(thing, Program):
                with self.assertRaises(errors.Wrong) as held:
                    Book(thing)
                self.assertEqual(held.exception.place, 0)

    def test_random_deeds(self):
        """Deeds, some of them taken back and done again, in a book and in a ledger."""
        found = {}
        for seed in range(60):
            chance = chances(seed)
            text = (PLAN, MANY, "p a,b if a b tell a tell f(b)\nq a,b go p (b,a)")[seed % 3]
            book, ledger = Book(program(text)), Ledger(functions(text))
            for each in list(random_deeds(chance, functions(text), 16)):
                told = self.do(book, ledger, each)
                found[told and told[0]] = found.get(told and told[0], 0) + 1
                for _ in range(chance.choice((0, 0, 0, 1, 3))):
                    word = chance.choice(("back", "again"))
                    self.assertEqual(told_of(getattr(book, word)), getattr(ledger, word)())
                if chance.random() < 0.3:
                    self.check(book, ledger)
            self.check(book, ledger)
            for name in functions(text):
                self.assertEqual(ask(self, book.word, name), ledger.word(name))
        self.assertGreater(len(found), 8, found)

    def test_editors_and_words(self):
        book = Book(program(PLAN))
        self.assertEqual((book.editors(), book.claims(), book.log(), len(book), book.word("pick")), ([], [], [], 0, "kept"))
        self.assertIs(book.program == program(PLAN), True)
        for editor in ("dan", "ann", "cid", "bob"):
            book.do(("join", editor))
            self.assertEqual((book.sheet(editor), book.word("pick")), ([], "kept"))
        self.assertEqual(book.editors(), ["dan", "ann", "cid", "bob"])
        book.do(deed("edit cid pick 2 c"))
        self.assertEqual(book.word("pick"), "kept")
        book.do(deed("edit ann pick 3.1 e"))
        self.assertEqual(book.word("pick"), "lost")
        self.assertEqual([book.sheet(name) for name in book.editors()], [[], [("pick", (3, 1), ("e",))], [("pick", (2,), ("c",))], []])
        book.back()
        book.do(deed("edit bob pick 4.1 e"))
        self.assertEqual(book.word("pick"), verdict(book.base, [book.sheet(name) for name in book.editors()], "pick")[1])

    def test_all_words(self):
        inner = "p a,b,c with x tell a with y tell x tell y"
        for text, name, lines, told in [
                (PLAN, "pick", [], "kept"), (PLAN, "pick", ["join ann"], "kept"), (PLAN, "pick", ["join ann", "join bob", "edit ann pick 2 c"], "kept"),
                (PLAN, "pick", ["join ann", "join bob", "edit ann pick 2 c", "edit bob pick 3.1 e"], "lost"),
                (PLAN, "pick", ["join ann", "edit ann pick 2 c", "edit ann pick 3.1 e"], "kept"),
                (inner, "p", ["join ann", "join bob", "edit ann p 2.1 b", "edit bob p 3.2 if c a tell x tell c"], "quarrel"),
                (inner, "p", ["join ann", "join bob", "edit ann p 2.1 b", "edit bob p 3.2 tell c"], "lost")]:
            book, ledger = book_of(text, *lines), Ledger(functions(text))
            ledger.log = [deed(line) for line in lines]
            self.assertEqual((ask(self, book.word, name), ledger.word(name)), (told, told), lines)

    def test_words_and_sheets_of_any_value(self):
        book = book_of(PLAN, "join ann")
        for thing in any_values() + ["none", "bob", "Ann", ("ann",), ["ann"]]:
            for call, name in ((book.word, "NoFunction"), (book.sheet, "NoEditor")):
                for other in (thing, [thing]):
                    with self.assertRaises(getattr(errors, name)) as held:
                        call(other)
                    self.assertIs(held.exception.name, other)
        with self.assertRaises(errors.NoFunction):
            Book(program(PLAN)).word("none")

    def test_what_is_told_goes_together(self):
        """The program is what merged tells of the base and all sheets, and the claims are kept there."""
        for seed in range(40):
            base = functions(MANY)
            book = Book(Program(base))
            for each in random_deeds(chances(seed), base, 14):
                told_of(book.do, each)
            sheets = [book.sheet(name) for name in book.editors()]
            if sheets:
                self.assertIs(book.program == merged(book.base, sheets), True)
                for name in base:
                    self.assertEqual(book.word(name), verdict(book.base, sheets, name)[1])
            for function, guard, end in book.claims():
                self.assertIs(keeps_claim(whole(book.program, function), (guard, end)), True)


class LogTest(unittest.TestCase):
    LINES = ("join ann", "edit ann pick 2 c", "claim pick if a c yes no d", "join bob")

    def test_back_and_again(self):
        book = book_of(PLAN)
        self.assertEqual([told_of(book.back), told_of(book.again)], [("Nothing",)] * 2)
        book = book_of(PLAN, *self.LINES)
        deeds = [deed(line) for line in self.LINES]
        steps = [book.copied()]
        for each in deeds[::-1]:
            self.assertEqual(book.back(), each)
            steps.append(book.copied())
        self.assertEqual(told_of(book.back), ("Nothing",))
        self.assertEqual((book.log(), len(book), book.editors(), book.claims()), ([], 0, [], []))
        self.assertIs(book.program == book.base, True)
        for each, step in zip(deeds, steps[-2::-1]):
            self.assertEqual(book.again(), each)
            self.assertIs(book == step, True)
            self.assertEqual(book.log(), step.log())
        self.assertEqual(told_of(book.again), ("Nothing",))
        self.assertEqual(book.log(), deeds)

    def test_again_behind_a_new_deed(self):
        book = book_of(PLAN, *self.LINES)
        book.back()
        book.back()
        book.do(("join", "cid"))
        self.assertEqual(told_of(book.again), ("Nothing",))
        self.assertEqual(book.log(), [deed(line) for line in (*self.LINES[:2], "join cid")])
        self.assertEqual(book.back(), ("join", "cid"))
        self.assertEqual(book.again(), ("join", "cid"))

    def test_again_behind_a_refused_deed(self):
        book = book_of(PLAN, *self.LINES)
        book.back()
        for line in ("join ann", "edit ann pick 2 d", "drop ann 0", "free 3", "edit bob pick 1 a", "claim pick yes a"):
            self.assertIsNotNone(told_of(book.do, deed(line)), line)
        self.assertEqual(told_of(book.do, None), ("NoDeed",))
        self.assertEqual(told_of(book.trial, [None]), ("Stopped", 0))
        self.assertEqual(book.again(), deed(self.LINES[-1]))
        self.assertEqual(told_of(book.again), ("Nothing",))

    def test_questions_do_not_count(self):
        book = book_of(PLAN, *self.LINES)
        book.back()
        book.editors(), book.claims(), book.log(), book.word("pick"), book.copied().do(("join", "eve")), book.trial([("join", "eve")])
        self.assertEqual(book.again(), deed(self.LINES[-1]))

    def test_several_in_a_row(self):
        book = book_of(PLAN, *self.LINES)
        for word, right in [("back", 3), ("back", 2), ("again", 2), ("back", 2), ("back", 1), ("again", 1), ("again", 2), ("again", 3), ("back", 3)]:
            self.assertEqual(getattr(book, word)(), deed(self.LINES[right]))
        self.assertEqual(len(book), 3)

    def test_what_was_taken_back_is_no_more(self):
        book = book_of(PLAN, *self.LINES)
        for _ in range(3):
            book.back()
        self.assertEqual((book.editors(), book.sheet("ann"), book.claims()), (["ann"], [], []))
        self.assertEqual(told_of(book.do, ("drop", "ann", 0)), ("NoNumber", 0))
        self.assertEqual(told_of(book.sheet, "bob"), ("NoEditor", "bob"))
        self.assertEqual(book.program.code("pick"), code("if a b tell d tell a"))


class CopyTest(unittest.TestCase):
    def test_copies_have_what_was_taken_back(self):
        book = book_of(PLAN, *LogTest.LINES)
        book.back()
        made = book.copied()
        self.assertIs(type(made), Book)
        self.assertIs(made == book, True)
        self.assertEqual(made.log(), book.log())
        self.assertEqual(made.again(), ("join", "bob"))
        self.assertEqual(told_of(made.again), ("Nothing",))
        self.assertEqual(len(book), 3)
        self.assertEqual(book.again(), ("join", "bob"))

    def test_copies_are_led_apart(self):
        book = book_of(PLAN, *LogTest.LINES)
        made = book.copied()
        made.do(deed("edit bob pick 1 a"))
        made.back()
        made.back()
        made.do(("join", "cid"))
        self.assertEqual((made.editors(), book.editors(), len(book)), (["ann", "cid"], ["ann", "bob"], 4))
        self.assertEqual(told_of(book.again), ("Nothing",))
        book.back()
        book.back()
        self.assertEqual((made.claims(), book.claims()), ([("pick", code("if a c yes no"), ("d",))], []))

    def test_trials(self):
        book = book_of(PLAN, "join ann", "edit ann pick 2 c")
        for lines, right in [
                ([], None), (["join bob"], None), (["join bob", "edit bob pick 3.1 e", "claim pick if a c yes no e", "free 0"], None), (["join ann"], 0),
                (["join bob", "join bob"], 1), (["join bob", "drop ann 0", "edit bob pick 2 d", "drop ann 0", "join cid"], 3),
                (["join bob", "edit bob pick 2 b", "join cid"], 1), (["join bob", "join cid", "free 0"], 2)]:
            deeds, before = [deed(line) for line in lines], seen(book)
            told = told_of(book.trial, deeds)
            self.assertEqual(deeds, [deed(line) for line in lines])
            self.assertEqual(seen(book), before)
            if right is None:
                self.assertIs(type(told), Book)
                self.assertEqual(told.log(), book.log() + deeds)
                other = book.copied()
                for each in deeds:
                    other.do(each)
                self.assertIs(told == other, True)
            else:
                self.assertEqual(told, ("Stopped", right), lines)

    def test_trial_of_any_values(self):
        book = book_of(PLAN, "join ann")
        for thing in any_values():
            self.assertEqual(told_of(book.trial, [("join", "bob"), thing, ("join", "cid")]), ("Stopped", 1))
        self.assertEqual(book.log(), [("join", "ann")])

    def test_a_trial_of_no_deed_has_what_was_taken_back(self):
        book = book_of(PLAN, "join ann", "join bob")
        book.back()
        self.assertEqual(book.trial([]).again(), ("join", "bob"))
        self.assertEqual(told_of(book.trial([("join", "cid")]).again), ("Nothing",))
        self.assertEqual(book.again(), ("join", "bob"))

    def test_lists_that_are_told_may_be_changed(self):
        book = book_of(PLAN, *LogTest.LINES)
        before = seen(book)
        for told in (book.log(), book.editors(), book.claims(), book.sheet("ann")):
            spoil(told)
        self.assertEqual(seen(book), before)


class EqualTest(unittest.TestCase):
    def test_equal_by_unlike_roads(self):
        one = book_of(PLAN, "join ann", "join bob", "edit ann pick 2 c", "claim pick no a")
        for lines in (["join ann", "join bob", "claim pick no a", "edit ann pick 2 c"], ["claim pick no a", "join ann", "edit ann pick 2 c", "join bob"],
                      ["join ann", "edit ann pick 1 b", "join bob", "edit ann pick 2 c", "drop ann 0", "claim pick no b", "claim pick no a", "free 0"]):
            other = book_of(PLAN, *lines)
            self.assertIs(one == other, True, lines)
            self.assertIs(one != other, False)
        other.back()
        self.assertIs(one == other, False)
        other.again()
        other.do(("join", "cid"))
        other.back()
        self.assertIs(one == other, True)

    def test_unequal(self):
        rows = [
            (PLAN,), (PLAN, "join ann"), (PLAN, "join bob"), (PLAN, "join ann", "join bob"), (PLAN, "join bob", "join ann"), (PLAN, "claim pick no a"),
            (PLAN, "claim pick no b"), (PLAN, "claim pick no a", "claim pick no b"), (PLAN, "claim pick no b", "claim pick no a"), (PLAN, "join ann", "edit ann pick 2 c"),
            (PLAN, "join ann", "edit ann pick 2 b"), (PLAN, "join ann", "edit ann pick 2 c", "edit ann pick 1 a"), (PLAN, "join ann", "edit ann pick 1 a", "edit ann pick 2 c"),
            (MANY,), (MANY, "claim p no a"), (MANY, "claim q no a"), ("pick a,b,c,e,d if a b tell d tell a",), (PLAN + "\nq a tell a",),
            (PLAN, "join ann", "join bob", "edit ann pick 2 c"), (PLAN, "join ann", "join bob", "edit bob pick 2 c"), ("pick a,b,c,d,e if a c tell d tell a",),
            ("pick a,b,c,d,e if a c tell d tell a", "join ann")]
        for (at, one), (to, other) in itertools.product(enumerate(rows), repeat=2):
            self.assertIs(book_of(*one) == book_of(*other), at == to, (one, other))
            self.assertIs(book_of(*one) != book_of(*other), at != to)

    def test_a_book_against_anything_else(self):
        book = book_of(PLAN)
        for thing in any_values() + [program(PLAN), functions(PLAN), [], None, 0, book.log()]:
            if not isinstance(thing, Book):
                self.assertIs(book == thing, False)
                self.assertIs(thing == book, False)
        self.assertIs(book == Book(book.base), True)


if __name__ == "__main__":
    unittest.main()
