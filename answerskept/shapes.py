"""Shapes of closed lists of terms [30]."""

from answerskept.closing import grouped, joined, numbered, unjoined, works_of
from answerskept.errors import TooMany
from answerskept.forms import is_term
from answerskept.terms import mark
from answerskept.worlds import worth

_MOST = 7


def shape(terms, world):
    """Return the shape of a closed list in a world."""
    return grouped(terms, [worth(term, world) for term in terms])


def is_shape(terms, thing):
    """Whether thing, any value, is a shape of a closed list."""
    if not isinstance(thing, tuple) or not all([_is_lot(lot) for lot in thing]):
        return False
    if sorted([term for lot in thing for term in lot]) != terms:
        return False
    numbers = lot_numbers(thing)
    lots = [numbers[mark(term)] for term in terms]
    # What is grouped anew is ascending, and has no empty lot: so thing is as it should be
    # if it is equal to it.
    return grouped(terms, lots) == thing and not unjoined(works_of(terms), lots)


def shapes(terms):
    """Return the ascending list of all shapes of a closed list of at most seven terms."""
    if len(terms) > _MOST:
        raise TooMany(_MOST)
    found = [[]]
    for _ in terms:
        found = [lots + [lot] for lots in found for lot in range(max(lots, default=-1) + 2)]
    works = works_of(terms)
    return sorted([grouped(terms, lots) for lots in found if not unjoined(works, lots)])


def finest(terms, pairs):
    """Return the shape with most lots in which the terms of each pair are in one lot."""
    numbers = numbered(terms)
    wanted = [(numbers[mark(one)], numbers[mark(other)]) for one, other in pairs]
    return grouped(terms, joined(works_of(terms), list(range(len(terms))), wanted))


def is_finer(one, other):
    """Whether each lot of one shape lies within a lot of the other."""
    numbers = lot_numbers(other)
    return all([numbers[mark(term)] == numbers[mark(lot[0])] for lot in one for term in lot])


def world_of(shape):
    """Return the world in which the worths of terms are the numbers of their lots."""
    numbers = lot_numbers(shape)
    world = {}
    for number, lot in enumerate(shape):
        for term in lot:
            world[term[:1] + tuple([numbers[mark(part)] for part in term[1:]])] = number
    return {key: world[key] for key in sorted(world)}


def lot_numbers(shape):
    """Return a dict from the marks of the terms of a shape to the numbers of their lots."""
    return {mark(term): number for number, lot in enumerate(shape) for term in lot}


def _is_lot(thing):
    return isinstance(thing, tuple) and all([is_term(part) for part in thing])
