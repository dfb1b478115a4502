"""Which answers afters want of a base, where they quarrel, and codes that keep them [70]."""

from answerskept.codes import answer
from answerskept.errors import Quarrel
from answerskept.forms import is_world
from answerskept.wanting import odd_pairs, wanted_code, wanted_of
from answerskept.weaving import known_for, world_to, woven

_YES = ("yes",)
_NO = ("no",)


def wanted(base, afters, world):
    """Return the wanted answer in a world, or None if the afters quarrel there."""
    return wanted_of(answer(base, world), [answer(after, world) for after in afters])


def quarrel_world(base, afters):
    """Return a world in which the afters quarrel, or None."""
    known = known_for([base] + afters)
    return world_to(known, wanted_code(known, base, afters), _NO)


def is_quarrel_world(base, afters, thing):
    """Whether thing, any value, is a world in which the afters quarrel."""
    return is_world(thing) and wanted(base, afters, thing) is None


def losing_world(base, afters, code):
    """Return a world in which a code loses, or None."""
    known = known_for([base, code] + afters)
    return world_to(known, woven(known, [wanted_code(known, base, afters), code], _losing_end), _YES)


def is_losing_world(base, afters, code, thing):
    """Whether thing, any value, is a world in which a code loses."""
    if not is_world(thing):
        return False
    told = wanted(base, afters, thing)
    return told is not None and answer(code, thing) != told


def keeps(base, afters, code):
    """Whether a code keeps the afters: it loses in no world, and they quarrel in none."""
    return quarrel_world(base, afters) is None and losing_world(base, afters, code) is None


def kept(base, afters):
    """Return a code that keeps the afters."""
    pairs = odd_pairs(base, afters, _YES)
    if pairs:
        raise Quarrel(pairs[0][0], pairs[0][1])
    return wanted_code(known_for([base] + afters), base, afters)


def _losing_end(found, code):
    return _NO if found == _NO else ("if", found[1], code[1], _NO, _YES)
