"""Programs: functions with long codes, which go on as one another [50]."""

from answerskept.errors import Loose, Missing, NoFunction, Round, Uneven, Wrong
from answerskept.forms import are_names, is_fork, is_name, is_tell, is_term
from answerskept.longs import gos_in, loose_in


def is_long(thing):
    """Whether thing, any value, is a long code."""
    waiting = [thing]
    while waiting:
        part = waiting.pop()
        if _is_with(part):
            waiting.extend(part[2:])
        elif is_fork(part):
            waiting.extend(part[3:])
        elif not is_tell(part) and not _is_go(part):
            return False
    return True


class Program:
    """Functions by their names, each with its givens and its long code; it never changes."""

    def __init__(self, functions):
        if not _are_functions(functions):
            raise Wrong(0)
        self._functions = {name: (tuple(functions[name][0]), functions[name][1]) for name in sorted(functions)}
        self._gos = {name: gos_in(functions[name][1]) for name in sorted(functions)}
        _refuse_gos(self._functions, self._gos)
        _refuse_rounds(self._gos)
        _refuse_loose(self._functions)

    def functions(self):
        """Return the ascending list of the names of the functions."""
        return list(self._functions)

    def givens(self, function):
        """Return the list of the givens of a function, in order."""
        self._check_function(function)
        return list(self._functions[function][0])

    def code(self, function):
        """Return the long code of a function."""
        self._check_function(function)
        return self._functions[function][1]

    def reaches(self, function):
        """Return the ascending list of the functions to which gos lead from one."""
        self._check_function(function)
        return _reached(self._gos, function)

    def with_code(self, function, code):
        """Return the Program with another long code for a function."""
        self._check_function(function)
        functions = {name: self._functions[name] for name in self._functions}
        functions[function] = (functions[function][0], code)
        return Program(functions)

    def __eq__(self, other):
        return isinstance(other, Program) and self._functions == other._functions

    def _check_function(self, thing):
        # What is no name may not even be a key, so it is not looked up.
        if not is_name(thing) or thing not in self._functions:
            raise NoFunction(thing)


def _is_with(thing):
    return isinstance(thing, tuple) and len(thing) == 4 and thing[0] == "with" and is_name(thing[1])


def _is_go(thing):
    if not isinstance(thing, tuple) or len(thing) != 3 or thing[0] != "go" or not is_name(thing[1]):
        return False
    return isinstance(thing[2], tuple) and all([is_term(part) for part in thing[2]])


def _are_functions(thing):
    if not isinstance(thing, dict) or not thing:
        return False
    return all([is_name(name) and _is_function(thing[name]) for name in thing])


def _is_function(thing):
    if not isinstance(thing, tuple) or len(thing) != 2:
        return False
    return are_names(thing[0]) and is_long(thing[1])


def _refuse_gos(functions, gos):
    handed = [go for name in functions for go in gos[name]]
    missing = [name for name, _ in handed if name not in functions]
    if missing:
        raise Missing(min(missing))
    uneven = [name for name, terms in handed if len(terms) != len(functions[name][0])]
    if uneven:
        raise Uneven(min(uneven))


def _refuse_rounds(gos):
    for name in sorted(gos):
        if name in _reached(gos, name):
            raise Round(name)


def _refuse_loose(functions):
    for function in sorted(functions):
        givens, code = functions[function]
        loose = loose_in(code, givens)
        if loose:
            raise Loose(function, min(loose))


def _reached(gos, start):
    """The ascending list of the names to which gos lead from a function, also through others."""
    found = {}
    waiting = [start]
    while waiting:
        here = waiting.pop()
        for name, _ in gos[here]:
            if name not in found:
                found[name] = True
                waiting.append(name)
    return sorted(found)
