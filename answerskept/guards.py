"""Guards: what is made of them, where they hold, and by how few tests [60]."""

from itertools import combinations

from answerskept.codes import asked
from answerskept.errors import TooMany
from answerskept.shapes import lot_numbers, shapes, world_of
from answerskept.terms import mark
from answerskept.weaving import known_for, plain, world_to, woven
from answerskept.worlds import alike

_YES = ("yes",)
_NO = ("no",)
_MOST = 5


def guard_holds(guard, world):
    """Whether a guard holds in a world."""
    here = guard
    while here[0] == "if":
        here = here[3] if alike(here[1], here[2], world) else here[4]
    return here == _YES


def both(one, other):
    """Return a guard that holds in just the worlds in which both of two do."""
    return woven(known_for([one, other]), [one, other], _both_ends)


def either(one, other):
    """Return a guard that holds in just the worlds in which at least one of two does."""
    return woven(known_for([one, other]), [one, other], _either_end)


def opposite(guard):
    """Return a guard that holds in just the worlds in which a guard does not."""
    return woven(known_for([guard]), [guard], _opposite_end)


def can(guard):
    """Whether a guard holds in some world."""
    return plain(known_for([guard]), guard) != _NO


def guard_world(guard):
    """Return a world in which a guard holds, or None."""
    return world_to(known_for([guard]), guard, _YES)


def same_guard(one, other):
    """Whether two guards hold in the same worlds."""
    return woven(known_for([one, other]), [one, other], _equal_ends) == _YES


def within(one, other):
    """Whether a guard holds in no world in which another one does not."""
    return not can(both(one, opposite(other)))


def fewest_tests(guard):
    """Return the least depth of the guards over the asked terms of one that hold where it does."""
    return _shallowest(guard)[0]


def shallow(guard):
    """Return a guard of the least depth over the asked terms of one that holds where it does."""
    return _shallowest(guard)[1]


def _both_ends(one, other):
    return other if one == _YES else _NO


def _either_end(one, other):
    return _YES if one == _YES else other


def _opposite_end(end):
    return _NO if end == _YES else _YES


def _equal_ends(one, other):
    return _YES if one == other else _NO


def _shallowest(guard):
    """The tuple (depth, guard) of a guard of the least depth that holds in the same worlds."""
    terms = asked([guard])
    if len(terms) > _MOST:
        raise TooMany(_MOST)
    kinds = shapes(terms)
    numbers = [lot_numbers(kind) for kind in kinds]
    tests = [
        (one, other, [lots[mark(one)] == lots[mark(other)] for lots in numbers])
        for one, other in combinations(terms, 2)
    ]
    holding = [guard_holds(guard, world_of(kind)) for kind in kinds]
    return _best(tuple(range(len(kinds))), tests, holding, {})


def _best(left, tests, holding, found):
    """As _shallowest, where only the shapes left, by their numbers, are still to be told apart.

    What was worked out ahead is found by these numbers: many ways lead to the same ones.
    """
    if left not in found:
        found[left] = _best_of(left, tests, holding, found)
    return found[left]


def _best_of(left, tests, holding, found):
    if all([holding[number] == holding[left[0]] for number in left]):
        return (0, _YES if holding[left[0]] else _NO)
    best = None
    for one, other, alikes in tests:
        over = tuple([number for number in left if alikes[number]])
        under = tuple([number for number in left if not alikes[number]])
        if over and under:
            yes, no = _best(over, tests, holding, found), _best(under, tests, holding, found)
            many = 1 + max(yes[0], no[0])
            if best is None or many < best[0]:
                best = (many, ("if", one, other, yes[1], no[1]))
    return best
