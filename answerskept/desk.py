"""Desks, which lead a book by lines [121]."""

from answerskept.books import Book
from answerskept.deeds import read_deed, show_deed
from answerskept.errors import KeptError, NoCommand, NoFunction, Nothing, NoText
from answerskept.forms import is_name
from answerskept.notation import show_code, show_program
from answerskept.readers import read_world
from answerskept.whole import ran, whole

_DEEDS = ("join", "edit", "drop", "claim", "free")
_MOST_DIGITS = 40


class Desk:
    """A Book that is led by lines, each of which is answered by a text."""

    def __init__(self, base):
        self._book = Book(base)

    def execute(self, line):
        """Do the deed, or answer the question, that a line writes, and return a text."""
        words = line.split(" ")
        if _has_long_number(line):
            raise NoCommand()
        if line in ("back", "again"):
            return self._turned(line)
        if line in ("editors", "claims", "program"):
            return self._told(line)
        try:
            return self._done(read_deed(line)) if words[0] in _DEEDS else self._answered(words)
        except NoText:
            raise NoCommand()

    def book(self):
        """Return a copy of the Book."""
        return self._book.copied()

    def _turned(self, word):
        try:
            deed = self._book.back() if word == "back" else self._book.again()
        except Nothing:
            return "nothing"
        return show_deed(deed)

    def _told(self, word):
        if word == "program":
            return show_program(self._book.program)
        names = self._book.editors()
        if word == "claims":
            names = [function for function, _, _ in self._book.claims()]
        return " ".join(names) if names else "-"

    def _done(self, deed):
        try:
            self._book.do(deed)
        except KeptError as error:
            return "refused " + type(error).__name__
        return "done"

    def _answered(self, words):
        """What the words of a question about one function are answered by."""
        if len(words) < 2 or not is_name(words[1]):
            raise NoCommand()
        world = read_world(" ".join(words[2:])) if words[0] == "run" else None
        if world is None and (len(words) > 2 or words[0] not in ("code", "whole", "word")):
            raise NoCommand()
        try:
            return self._answer(words[0], words[1], world)
        except NoFunction:
            return "refused NoFunction"

    def _answer(self, word, function, world):
        program = self._book.program
        if word == "code":
            return show_code(program.code(function))
        if word == "whole":
            return show_code(whole(program, function))
        if word == "word":
            return self._book.word(function)
        return str(ran(program, function, world))


def _has_long_number(line):
    many = 0
    for sign in line:
        many = many + 1 if sign.isdecimal() else 0
        if many > _MOST_DIGITS:
            return True
    return False
