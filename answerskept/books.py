"""Books: a program with the edits of several editors and with claims, led by deeds [120]."""

from answerskept.drafts import Draft, draft_behind
from answerskept.errors import KeptError, NoEditor, Nothing, Stopped, Wrong
from answerskept.forms import is_name
from answerskept.merging import verdict
from answerskept.programs import Program


class Book:
    """A base, editors with their sheets, and claims that the program of these keeps."""

    def __init__(self, base):
        if not isinstance(base, Program):
            raise Wrong(0)
        self._base = base
        self._log = []
        # One for the base, and one behind each deed.
        self._drafts = [Draft({}, [], base)]
        # What was taken back, as tuples (deed, draft), the last one that was taken back last.
        self._taken = []

    @property
    def base(self):
        """The Program that the editors began with."""
        return self._base

    @property
    def program(self):
        """The base with the sheets of all editors."""
        return self._drafts[-1].outcome

    def do(self, deed):
        """Do a deed, any value, or raise what it is refused for."""
        draft = draft_behind(self._base, self._drafts[-1], deed)
        self._log.append(deed)
        self._drafts.append(draft)
        self._taken = []

    def editors(self):
        """Return the list of the editors as they joined."""
        return list(self._drafts[-1].sheets)

    def sheet(self, editor):
        """Return the list of the edits of an editor, any value."""
        sheets = self._drafts[-1].sheets
        # What is no name may not even be a key, so it is not looked up.
        if not is_name(editor) or editor not in sheets:
            raise NoEditor(editor)
        return list(sheets[editor])

    def claims(self):
        """Return the list of the claims, as tuples (function, guard, term)."""
        return list(self._drafts[-1].pledges)

    def word(self, function):
        """Return what becomes of the answers of a function, any value, as a word."""
        self._base.code(function)
        sheets = list(self._drafts[-1].sheets.values())
        return verdict(self._base, sheets, function)[1] if sheets else "kept"

    def log(self):
        """Return the list of the deeds that made the book, in order."""
        return list(self._log)

    def back(self):
        """Take back the last deed, and return it."""
        if not self._log:
            raise Nothing()
        deed = self._log.pop()
        self._taken.append((deed, self._drafts.pop()))
        return deed

    def again(self):
        """Do the deed once more that was taken back last, and return it."""
        if not self._taken:
            raise Nothing()
        deed, draft = self._taken.pop()
        self._log.append(deed)
        self._drafts.append(draft)
        return deed

    def copied(self):
        """Return a Book like this one, with what was taken back."""
        made = Book(self._base)
        made._log = list(self._log)
        made._drafts = list(self._drafts)
        made._taken = list(self._taken)
        return made

    def trial(self, deeds):
        """Return a copy with a list of deeds done, or raise Stopped for the first one that is refused."""
        made = self.copied()
        for index, deed in enumerate(deeds):
            try:
                made.do(deed)
            except KeptError:
                raise Stopped(index)
        return made

    def __len__(self):
        return len(self._log)

    def __eq__(self, other):
        return isinstance(other, Book) and self._base == other._base and self._held() == other._held()

    def _held(self):
        """The editors with their sheets, and the claims, in order."""
        return (list(self._drafts[-1].sheets.items()), self._drafts[-1].pledges)
