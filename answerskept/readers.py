"""What texts write, just as they are shown [111]."""

from answerskept.claims import is_claim
from answerskept.errors import KeptError, NoText
from answerskept.forms import is_fact, is_guard, is_term, is_world
from answerskept.notation import (show_claim, show_code, show_edit, show_fact, show_guard, show_program, show_term,
                                  show_world)
from answerskept.parsing import pieces_of, place_in, term_in, thing_in, world_in
from answerskept.places import has_edit_form
from answerskept.programs import Program, is_long


def read_term(text):
    """Return the term that a text writes."""
    return written(text, term_in(text), is_term, show_term)


def read_code(text):
    """Return the long code that a text writes."""
    return written(text, thing_in(text), is_long, show_code)


def read_guard(text):
    """Return the guard that a text writes."""
    return written(text, thing_in(text), is_guard, show_guard)


def read_fact(text):
    """Return the fact that a text writes."""
    return written(text, thing_in(text), is_fact, show_fact)


def read_claim(text):
    """Return the claim that a text writes."""
    pieces = pieces_of(text)
    return written(text, (pieces[0], term_in(pieces[-1])), is_claim, show_claim)


def read_world(text):
    """Return the world that a text writes."""
    return written(text, world_in(text), is_world, show_world)


def read_edit(text):
    """Return the edit that a text writes."""
    pieces = pieces_of(text)
    if len(pieces) != 3:
        raise NoText()
    return written(text, (pieces[0], place_in(pieces[1]), term_in(pieces[2])), has_edit_form, show_edit)


def read_program(text):
    """Return the Program that a text writes."""
    functions = {}
    for line in text.split("\n"):
        words = line.split(" ", 2)
        if len(words) == 3:
            functions[words[0]] = (words[1].split(","), thing_in(words[2]))
    try:
        program = Program(functions)
    except KeptError:
        raise NoText()
    if show_program(program) != text:
        raise NoText()
    return program


def written(text, thing, is_right, show):
    """Return thing, if it is of the right form and its text is this one."""
    if not is_right(thing) or show(thing) != text:
        raise NoText()
    return thing
