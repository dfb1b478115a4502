"""Worlds, and what terms are worth there [23]."""

from answerskept.terms import closed


def worth(term, world):
    """Return the worth of a term in a world."""
    return world.get(_key(term, world), 0)


def alike(one, other, world):
    """Whether two terms have equal worths in a world."""
    return worth(one, world) == worth(other, world)


def all_hold(facts, world):
    """Whether all facts of a list hold in a world."""
    return all([_holds(fact, world) for fact in facts])


def thinned(world, terms):
    """Return the world with just the keys that the worths of closed terms ask for."""
    keys = sorted({_key(term, world) for term in closed(terms)})
    return {key: world[key] for key in keys if key in world}


def _key(term, world):
    # It looks up the worths of the parts itself: one call for each step down.
    key = term[:1]
    for part in term[1:]:
        key = key + (world.get(_key(part, world), 0),)
    return key


def _holds(fact, world):
    return alike(fact[1], fact[2], world) == (fact[0] == "alike")
