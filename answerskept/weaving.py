"""Codes and guards made of others, which are gone through one behind another.

An end is here all that is no if. An if asks no more than the codes that are woven, and
where what is known settles it, only the side that it goes on as is left of it.
"""

from answerskept.codes import asked
from answerskept.known import known_of


def known_for(things):
    """Return what is known of the asked terms of some codes and guards without any facts."""
    return known_of(asked(things), [])


def woven(known, codes, make):
    """Return what goes through codes in order, and goes on as what make makes of their ends."""
    return _woven(known, codes, (), make)


def plain(known, code):
    """Return a code or a guard without ifs that are settled, or have two equal sides."""
    return _woven(known, [code], (), _same_end)


def ends_of(known, code):
    """Return tuples (what is known there, end) for the ends that a code or a guard can come to."""
    here = known.led(code)
    if here[0] != "if":
        return [(known, here)]
    _, one, other, yes, no = here
    over, under = known.also(("alike", one, other)), known.also(("unlike", one, other))
    return ends_of(over, yes) + ends_of(under, no)


def world_to(known, code, goal):
    """Return a world in which a code or a guard comes to an end, or None."""
    for there, end in ends_of(known, code):
        if end == goal:
            return there.some_world()
    return None


def _woven(known, codes, ends, make):
    if not codes:
        made = make(*ends)
        return plain(known, made) if made[0] == "if" else made
    here, rest = known.led(codes[0]), codes[1:]
    if here[0] != "if":
        return _woven(known, rest, ends + (here,), make)
    _, one, other, yes, no = here
    over = _woven(known.also(("alike", one, other)), [yes] + rest, ends, make)
    under = _woven(known.also(("unlike", one, other)), [no] + rest, ends, make)
    return over if over == under else ("if", one, other, over, under)


def _same_end(end):
    return end
