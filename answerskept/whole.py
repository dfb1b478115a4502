"""Whole codes of functions, without withs and gos, and what runs of functions tell [51]."""

from answerskept.terms import put_in
from answerskept.worlds import alike, worth


def whole(program, function):
    """Return the whole code of a function, a code without withs and gos."""
    names = {name: (name,) for name in program.givens(function)}
    return _whole(program, program.code(function), names, None)


def ran(program, function, world):
    """Return what a run of a function tells in a world."""
    # Things are looked up in a world of their own, which also has what withs and gos make of
    # them. All things of a function come from its givens and withs: others do not meddle.
    here = world
    code = program.code(function)
    behind = None
    while True:
        if code[0] == "with":
            behind = (code[1], code[3], here, behind)
            code = code[2]
        elif code[0] == "go":
            here = _with_worths(here, program.givens(code[1]), [worth(term, here) for term in code[2]])
            code = program.code(code[1])
        elif code[0] == "if":
            code = code[3] if alike(code[1], code[2], here) else code[4]
        elif behind is None:
            return worth(code[1], here)
        else:
            told = worth(code[1], here)
            name, code, here, behind = behind
            here = _with_worths(here, [name], [told])


def _whole(program, code, names, behind):
    """Work out a long code, with names standing for terms.

    What stands behind each of its tells is a tuple (name, body, names, what is behind that)
    of the with around it, or None. So only ifs lead down to further calls.
    """
    while code[0] != "if":
        if code[0] == "with":
            behind = (code[1], code[3], names, behind)
            code = code[2]
        elif code[0] == "go":
            terms = [put_in(term, names) for term in code[2]]
            names = _with_names({}, program.givens(code[1]), terms)
            code = program.code(code[1])
        else:
            told = put_in(code[1], names)
            if behind is None:
                return ("tell", told)
            name, code, names, behind = behind
            names = _with_names(names, [name], [told])
    _, one, other, yes, no = code
    yes, no = _whole(program, yes, names, behind), _whole(program, no, names, behind)
    return ("if", put_in(one, names), put_in(other, names), yes, no)


def _with_names(names, added, terms):
    made = {name: names[name] for name in names}
    for name, term in zip(added, terms):
        made[name] = term
    return made


def _with_worths(world, names, worths):
    made = {key: world[key] for key in world}
    for name, much in zip(names, worths):
        made[(name,)] = much
    return made
