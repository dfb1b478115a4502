"""Guards under which afters do not quarrel, and codes that keep them there [71]."""

from answerskept.errors import Quarrel
from answerskept.wanting import odd_pairs, wanted_code
from answerskept.weaving import known_for, woven

_YES = ("yes",)
_NO = ("no",)


def peace(base, afters):
    """Return a guard that holds in just the worlds in which the afters do not quarrel."""
    known = known_for([base] + afters)
    return woven(known, [wanted_code(known, base, afters)], _peace_end)


def kept_under(base, afters, guard):
    """Return a code with the wanted answer where a guard holds, and the base's elsewhere."""
    pairs = odd_pairs(base, afters, guard)
    if pairs:
        raise Quarrel(pairs[0][0], pairs[0][1])
    known = known_for([base, guard] + afters)
    return woven(known, [guard, wanted_code(known, base, afters), base], _guarded_end)


def _peace_end(found):
    return _NO if found == _NO else _YES


def _guarded_end(guard, found, base):
    return found if guard == _YES else base
