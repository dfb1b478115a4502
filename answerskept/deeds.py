"""Deeds, which lead a book, and the lines that write them."""

from answerskept.claims import is_claim
from answerskept.forms import is_integer, is_name
from answerskept.notation import show_claim, show_edit
from answerskept.parsing import number_in, pieces_of, place_in, term_in
from answerskept.places import has_edit_form
from answerskept.readers import written


def is_deed(thing):
    """Whether thing, any value, is a deed by its form."""
    if not isinstance(thing, tuple) or len(thing) < 2:
        return False
    word = thing[0]
    if word == "free":
        return len(thing) == 2 and is_integer(thing[1])
    if not is_name(thing[1]):
        return False
    if word == "join":
        return len(thing) == 2
    if word == "edit":
        return has_edit_form(thing[2:])
    if word == "drop":
        return len(thing) == 3 and is_integer(thing[2])
    return word == "claim" and is_claim(thing[2:])


def show_deed(deed):
    """Return the line that writes a deed."""
    word = deed[0]
    if word == "edit":
        return f"edit {deed[1]} {show_edit(deed[2:])}"
    if word == "claim":
        return f"claim {deed[1]} {show_claim(deed[2:])}"
    return " ".join([str(part) for part in deed])


def read_deed(text):
    """Return the deed that a line writes."""
    pieces = pieces_of(text)
    word = pieces[0]
    if word in ("drop", "free"):
        pieces[-1] = number_in(pieces[-1])
    elif word == "edit" and len(pieces) == 5:
        pieces[3:] = [place_in(pieces[3]), term_in(pieces[4])]
    elif word == "claim":
        pieces[-1] = term_in(pieces[-1])
    return written(text, tuple(pieces), is_deed, show_deed)
