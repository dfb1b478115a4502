"""What afters want of a base: of its answer alone, and as one code; and which two of them quarrel."""

from itertools import combinations

from answerskept.weaving import known_for, world_to, woven

_YES = ("yes",)
_NO = ("no",)


def wanted_of(start, told):
    """Return what is wanted where a base tells start, and afters what is told, or None if they quarrel."""
    found = start
    for goal in told:
        if goal != start:
            if found not in (start, goal):
                return None
            found = goal
    return found


def first_of(start, told, order):
    """Return the first of what afters tell, in an order, that is unlike what a base tells, or that."""
    for index in order:
        if told[index] != start:
            return told[index]
    return start


def wanted_code(known, base, afters):
    """Return a code that tells the wanted answer, and ends in ("no",) where the afters quarrel."""
    found = base
    for after in afters:
        found = woven(known, [found, base, after], _wanted_end)
    return found


def odd_pairs(base, afters, guard):
    """Return the ascending list of the indexes of two afters that quarrel where a guard holds."""
    known = known_for([base, guard] + afters)
    return [
        (one, other) for one, other in combinations(range(len(afters)), 2)
        if _are_odd(known, base, [afters[one], afters[other]], guard)
    ]


def _wanted_end(found, base, after):
    if found == _NO:
        return _NO
    # As long as no after has changed the base, what is found is the base's answer.
    second = ("if", found[1], after[1], found, _NO)
    return ("if", base[1], after[1], found, ("if", base[1], found[1], after, second))


def _are_odd(known, base, two, guard):
    quarrel = woven(known, [guard, wanted_code(known, base, two)], _odd_end)
    return world_to(known, quarrel, _YES) is not None


def _odd_end(guard, found):
    return _YES if guard == _YES and found == _NO else _NO
