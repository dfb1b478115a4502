"""Whether codes do the same, with papers that show it, and ifs that are idle [41]."""

from answerskept.codes import answer, asked
from answerskept.forms import is_forked, is_world
from answerskept.known import known_of
from answerskept.terms import closed

_MET = ("met",)


def do_same(one, other):
    """Whether two codes have equal answers in all worlds."""
    return _same_by(_known_for([one, other]), one, other)


def parting_world(one, other):
    """Return a world in which the answers of two codes are unlike, or None."""
    parted = []
    _compared(_known_for([one, other]), one, other, parted)
    return parted[0].some_world() if parted else None


def is_parting_world(one, other, thing):
    """Whether thing, any value, is a world in which the answers of two codes are unlike."""
    return is_world(thing) and answer(one, thing) != answer(other, thing)


def paper(one, other):
    """Return a paper of two codes of which each end is right, or None."""
    parted = []
    found = _compared(_known_for([one, other]), one, other, parted)
    return None if parted else found


def is_paper(one, other, thing):
    """Whether thing, any value, is a paper of two codes of which each end is right."""
    if not is_forked(thing, _is_met):
        return False
    known = known_of(closed(asked([one, other]) + _tested(thing)), [])
    return _is_right(known, one, other, thing)


def idle_ifs(code):
    """Return the ascending list of the idle ifs of a code, as tuples (place, word)."""
    found = []
    _find_idle(_known_for([code]), code, (), found)
    return sorted(found)


def lean(code):
    """Return a code that does the same and has no idle if, made by sides for ifs."""
    return _lean(_known_for([code]), code)


def _known_for(codes):
    return known_of(asked(codes), [])


def _is_met(thing):
    return thing == _MET


def _same_by(known, one, other):
    """Whether two codes have equal answers in all worlds in which known facts hold."""
    parted = []
    _compared(known, one, other, parted)
    return not parted


def _compared(known, one, other, parted):
    """Return a paper of two codes, or put what is known where they part into parted."""
    one, other = known.led(one), known.led(other)
    if one[0] == "tell" and other[0] == "tell":
        if known.tells(one[1], other[1]) is not True:
            parted.append(known)
        return _MET
    if one[0] == "tell":
        one, other = other, one
    _, first, second, yes, no = one
    left = _compared(known.also(("alike", first, second)), yes, other, parted)
    if parted:
        return left
    return ("if", first, second, left, _compared(known.also(("unlike", first, second)), no, other, parted))


def _tested(thing):
    """The terms of the ifs of a paper."""
    found = []
    waiting = [thing]
    while waiting:
        part = waiting.pop()
        if part != _MET:
            found.extend(part[1:3])
            waiting.extend(part[3:])
    return found


def _is_right(known, one, other, thing):
    """Whether each end of a paper is right, with the facts of the way to it known."""
    if not known.can_be:
        return True
    if thing == _MET:
        first, second = _settled_end(known, one), _settled_end(known, other)
        return first is not None and second is not None and known.tells(first, second) is True
    yes = known.also(("alike",) + thing[1:3])
    no = known.also(("unlike",) + thing[1:3])
    return _is_right(yes, one, other, thing[3]) and _is_right(no, one, other, thing[4])


def _settled_end(known, code):
    """The term that a code comes to tell by ifs that are settled, or None."""
    end = known.led(code)
    return end[1] if end[0] == "tell" else None


def _find_idle(known, code, place, found):
    if code[0] == "tell":
        return
    _, one, other, yes, no = code
    over = known.also(("alike", one, other))
    under = known.also(("unlike", one, other))
    # A side may stand for the if where the other side, in its own worlds, does the same.
    if _same_by(over, yes, no):
        found.append((place, "no"))
    if _same_by(under, yes, no):
        found.append((place, "yes"))
    _find_idle(over, yes, place + ("yes",), found)
    _find_idle(under, no, place + ("no",), found)


def _lean(known, code):
    if code[0] == "tell":
        return code
    _, one, other, yes, no = code
    over = known.also(("alike", one, other))
    under = known.also(("unlike", one, other))
    # The sides come first: a side without idle ifs has none either where less is known.
    yes, no = _lean(over, yes), _lean(under, no)
    if _same_by(under, yes, no):
        return yes
    if _same_by(over, yes, no):
        return no
    return ("if", one, other, yes, no)
