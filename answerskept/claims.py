"""Claims: which answer a code has where a guard holds [90]."""

from answerskept.codes import answer
from answerskept.forms import is_guard, is_term, is_world
from answerskept.guards import both, can, guard_holds
from answerskept.weaving import known_for, world_to, woven
from answerskept.worlds import worth

_YES = ("yes",)
_NO = ("no",)


def is_claim(thing):
    """Whether thing, any value, is a claim."""
    return isinstance(thing, tuple) and len(thing) == 2 and is_guard(thing[0]) and is_term(thing[1])


def keeps_claim(code, claim):
    """Whether a code keeps a claim."""
    return breaking_world(code, claim) is None


def breaking_world(code, claim):
    """Return a world in which the guard of a claim holds and the answer is another one, or None."""
    guard, term = claim
    known = known_for([guard, code, term])
    return world_to(known, woven(known, [guard, ("tell", term), code], _breaking_end), _YES)


def is_breaking_world(code, claim, thing):
    """Whether thing, any value, is a world in which a code breaks a claim."""
    guard, term = claim
    return is_world(thing) and guard_holds(guard, thing) and answer(code, thing) != worth(term, thing)


def stands(base, claim, guard):
    """Whether a claim is kept by each code that answers as the base where a guard does not hold."""
    # Where the guard holds, a code may tell a thing that no one asks for: so the claim must not speak there.
    return not can(both(claim[0], guard)) and keeps_claim(base, claim)


def lost_claims(base, afters, code, claims):
    """Return the ascending list of the indexes of claims that base and afters keep, and a code breaks."""
    return [
        index for index, claim in enumerate(claims)
        if all([keeps_claim(each, claim) for each in [base] + afters]) and not keeps_claim(code, claim)
    ]


def _breaking_end(guard, goal, told):
    return ("if", goal[1], told[1], _NO, _YES) if guard == _YES else _NO
