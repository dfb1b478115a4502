"""Places in long codes, and edits that put something there [52]."""

from itertools import combinations

from answerskept.errors import KeptError, NoFunction, NoPlace, Overlap
from answerskept.forms import is_integer, is_name, is_term
from answerskept.longs import parts_of, put_at
from answerskept.lots import least_lots
from answerskept.programs import Program, is_long
from answerskept.sameness import do_same
from answerskept.whole import whole


def places(program, function):
    """Return the ascending list of all places of a function's code."""
    return sorted([place for place, _ in parts_of(program.code(function))])


def part_at(program, function, place):
    """Return the term or the long code at a place, any value, of a function's code."""
    code = program.code(function)
    # True would be found as 1, so only integers are looked for.
    if _are_steps(place):
        for other, part in parts_of(code):
            if other == place:
                return part
    raise NoPlace(place)


def is_edit(program, thing):
    """Whether thing, any value, is an edit that fits a program."""
    if not isinstance(thing, tuple) or len(thing) != 3:
        return False
    function, place, part = thing
    try:
        there = part_at(program, function, place)
    except (NoFunction, NoPlace):
        return False
    return is_term(part) if is_term(there) else is_long(part)


def has_edit_form(thing):
    """Whether thing, any value, could be an edit of some program."""
    if not isinstance(thing, tuple) or len(thing) != 3 or not is_name(thing[0]):
        return False
    return _are_steps(thing[1]) and (is_term(thing[2]) or is_long(thing[2]))


def edited(program, edits):
    """Return the Program with all of a list of edits made at once."""
    for one, other in combinations(range(len(edits)), 2):
        if are_at_odds(edits[one], edits[other]):
            raise Overlap(one, other)
    functions = {name: (program.givens(name), program.code(name)) for name in program.functions()}
    # No place lies within another one, so each is still there when others have been edited.
    for function, place, part in edits:
        givens, code = functions[function]
        functions[function] = (givens, put_at(code, place, part))
    return Program(functions)


def least_edits(program, edits, function):
    """Return the ascending list of the least lots of edits that do to a function what all do."""
    goal = whole(edited(program, edits), function)
    return least_lots(len(edits), lambda lot: _gives(program, [edits[at] for at in lot], function, goal))


def are_at_odds(one, other):
    """Whether two edits are of one function, and the place of one begins that of the other."""
    many = min(len(one[1]), len(other[1]))
    return one[0] == other[0] and one[1][:many] == other[1][:many]


def _are_steps(thing):
    return isinstance(thing, tuple) and all([is_integer(step) for step in thing])


def _gives(program, edits, function, goal):
    """Whether edits can be made and give a function a whole code that does the same as another code."""
    try:
        made = edited(program, edits)
    except KeptError:
        return False
    return do_same(whole(made, function), goal)
