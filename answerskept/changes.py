"""Changes: where an after changes a base, and what is made of changes [61]."""

from answerskept.codes import answer
from answerskept.sameness import do_same
from answerskept.weaving import known_for, woven

_YES = ("yes",)
_NO = ("no",)


def changes_in(base, after, world):
    """Whether an after changes a base in a world."""
    return answer(base, world) != answer(after, world)


def where(base, after):
    """Return a guard that holds in just the worlds in which an after changes a base."""
    return woven(known_for([base, after]), [base, after], _parted)


def is_idle(base, after):
    """Whether an after changes a base in no world."""
    return do_same(base, after)


def narrowed(base, after, guard):
    """Return a code that answers as an after where a guard holds, and as the base elsewhere."""
    return woven(known_for([guard, base, after]), [guard, base, after], _narrowed_end)


def is_less(base, one, other):
    """Whether another after has the answer of one wherever this one changes the base."""
    return woven(known_for([base, one, other]), [base, one, other], _followed) == _YES


def common(base, one, other):
    """Return a code that answers as two afters where both make the same change, else as the base."""
    return woven(known_for([base, one, other]), [base, one, other], _common_end)


def _parted(base, after):
    return ("if", base[1], after[1], _NO, _YES)


def _narrowed_end(guard, base, after):
    return after if guard == _YES else base


def _followed(base, one, other):
    return ("if", base[1], one[1], _YES, ("if", one[1], other[1], _YES, _NO))


def _common_end(base, one, other):
    return ("if", one[1], other[1], one, base)
