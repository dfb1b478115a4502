"""Changes carried from the code of which an after was made to another one [81]."""

from answerskept.sameness import do_same
from answerskept.weaving import known_for, world_to, woven

_YES = ("yes",)
_NO = ("no",)


def carried(before, after, base):
    """Return a code that answers as an after where base and before have one answer, else as the base."""
    return woven(known_for([before, after, base]), [before, after, base], _carried_end)


def left_world(before, after, base):
    """Return a world in which the change from before to after is left, or None."""
    known = known_for([before, after, base])
    return world_to(known, woven(known, [before, after, base], _left_end), _YES)


def is_exact(before, after, base):
    """Whether the base has the answer of before wherever the after changes before."""
    return woven(known_for([before, after, base]), [before, after, base], _exact_end) == _YES


def back_again(before, after, base):
    """Whether the change, carried to the base and to before again, does the same as the after."""
    return do_same(carried(base, carried(before, after, base), before), after)


def over(base, one, other):
    """Return a code that answers as the change from base to other, carried to one."""
    return carried(base, other, one)


def _carried_end(before, after, base):
    return ("if", before[1], base[1], after, base)


def _left_end(before, after, base):
    left = ("if", after[1], base[1], _NO, _YES)
    return ("if", before[1], after[1], _NO, ("if", before[1], base[1], _NO, left))


def _exact_end(before, after, base):
    return ("if", before[1], after[1], _YES, ("if", before[1], base[1], _YES, _NO))
