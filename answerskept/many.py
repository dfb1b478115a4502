"""Which of many afters quarrel, and which lots of them can be kept [72]."""

from answerskept.lots import least_lots
from answerskept.wanting import odd_pairs


def quarrels(base, afters):
    """Return the ascending list of the indexes of two afters that quarrel in some world."""
    return odd_pairs(base, afters, ("yes",))


def kept_lots(base, afters):
    """Return the ascending list of the greatest lots of afters that can all be kept."""
    out = left_out(base, afters)
    return sorted([tuple([at for at in range(len(afters)) if at not in lot]) for lot in out])


def left_out(base, afters):
    """Return the ascending list of the least lots without which the other afters can all be kept."""
    # Any number of afters can be kept if each two can: so of each pair that quarrels one is out.
    pairs = quarrels(base, afters)
    return least_lots(len(afters), lambda lot: all([one in lot or other in lot for one, other in pairs]))
