"""Facts: whether they can hold, and what follows from them [31]."""

from answerskept.known import known_of
from answerskept.lots import least_lots
from answerskept.terms import closed


def can_hold(facts):
    """Whether all of some facts hold in some world."""
    return known_of(fact_terms(facts), facts).can_be


def world_for(facts):
    """Return a world in which all of some facts hold, or None."""
    known = known_of(fact_terms(facts), facts)
    return known.some_world() if known.can_be else None


def follows(facts, fact):
    """Whether a fact holds in all worlds in which some facts hold."""
    return known_of(fact_terms(facts + [fact]), facts).gives(fact)


def least_grounds(facts, fact):
    """Return the ascending list of the least lots of facts from which a fact follows."""
    return least_lots(len(facts), lambda lot: follows([facts[index] for index in lot], fact))


def fact_terms(facts):
    """Return the asked terms of some facts."""
    return closed([term for fact in facts for term in fact[1:]])
