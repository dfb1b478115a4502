"""Merges of the edits of several editors, and whether they keep what each of them did [80]."""

from itertools import combinations

from answerskept.errors import Clash, KeptError
from answerskept.keeping import is_losing_world, losing_world, quarrel_world
from answerskept.lots import least_lots
from answerskept.places import are_at_odds, edited
from answerskept.whole import whole


def made(program, sheets):
    """Return the list of the Programs with the edits of each editor alone."""
    return [edited(program, sheet) for sheet in sheets]


def clashes(sheets):
    """Return the ascending list of the tuples (editor, index, other, number) of edits that clash."""
    return sorted([
        (editor, index, other, number)
        for editor, other in combinations(range(len(sheets)), 2)
        for index, edit in enumerate(sheets[editor])
        for number, second in enumerate(sheets[other])
        if edit != second and are_at_odds(edit, second)
    ])


def merged(program, sheets):
    """Return the Program with all edits of all sheets made at once."""
    found = clashes(sheets)
    if found:
        editor, index, other, number = found[0]
        raise Clash((editor, index), (other, number))
    edits = []
    for sheet in sheets:
        edits = edits + [edit for edit in sheet if edit not in edits]
    return edited(program, edits)


def verdict(program, sheets, function):
    """Return what becomes of the texts, and of the answers of a function, as a tuple of two words."""
    first, whole_code = _merge_of(program, sheets, function)
    base, afters = whole(program, function), _afters_of(program, sheets, function)
    if whole_code is not None and losing_world(base, afters, whole_code) is not None:
        return (first, "lost")
    return (first, "kept" if quarrel_world(base, afters) is None else "quarrel")


def lost_world(program, sheets, function):
    """Return a world in which the merged code of a function loses, or None."""
    _, code = _merge_of(program, sheets, function)
    if code is None:
        return None
    return losing_world(whole(program, function), _afters_of(program, sheets, function), code)


def is_lost_world(program, sheets, function, thing):
    """Whether thing, any value, is a world in which the merged code of a function loses."""
    _, code = _merge_of(program, sheets, function)
    if code is None:
        return False
    return is_losing_world(whole(program, function), _afters_of(program, sheets, function), code, thing)


def losing_lots(program, sheets, function):
    """Return the ascending list of the least lots of editors whose sheets alone are merged with a loss."""
    return least_lots(
        len(sheets), lambda lot: lost_world(program, [sheets[at] for at in lot], function) is not None)


def _merge_of(program, sheets, function):
    """The first word of the verdict, and the whole code in the merged Program, or None."""
    try:
        together = merged(program, sheets)
    except Clash:
        return ("clash", None)
    except KeptError:
        return ("broken", None)
    return ("clean", whole(together, function))


def _afters_of(program, sheets, function):
    return [whole(one, function) for one in made(program, sheets)]
