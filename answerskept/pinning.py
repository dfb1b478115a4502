"""Claims that tell codes apart [91]."""

from answerskept.claims import keeps_claim
from answerskept.lots import least_lots
from answerskept.sameness import do_same


def pins(codes, index, claims):
    """Return the ascending list of the least lots of claims that, of some codes, just one of them keeps."""
    own = _kept_by(codes[index], claims)
    others = [_kept_by(code, claims) for code in codes if not do_same(code, codes[index])]
    return least_lots(
        len(claims), lambda lot: _has_all(own, lot) and not any([_has_all(other, lot) for other in others]))


def told_apart(codes, claims):
    """Return the ascending list of the ascending lists of codes that keep the same of the claims."""
    found = {}
    for index, code in enumerate(codes):
        found.setdefault(_kept_by(code, claims), []).append(index)
    return sorted(found.values())


def _kept_by(code, claims):
    """A truth for each claim: whether a code keeps it."""
    return tuple([keeps_claim(code, claim) for claim in claims])


def _has_all(kept, lot):
    return all([kept[index] for index in lot])
