"""Orders of afters: in each world the first one that changes the base is followed [73]."""

from itertools import permutations

from answerskept.changes import where
from answerskept.codes import answer
from answerskept.wanting import first_of
from answerskept.weaving import ends_of, known_for, woven

_NO = ("no",)


def settled(base, afters, order):
    """Return a code that answers as the first after in the order that changes the base."""
    known = known_for([base] + afters)
    found = base
    for index in reversed(order):
        found = woven(known, [base, afters[index], found], _settled_end)
    return found


def shows(base, afters, order, index):
    """Return a guard that holds where the first after that changes the base is that with the index."""
    known = known_for([base] + afters)
    found = where(base, afters[index])
    for ahead in order[:order.index(index)]:
        found = woven(known, [base, afters[ahead], found], _shown_end)
    return found


def orders_for(base, afters, wishes):
    """Return the ascending list of the orders by which the settled code has the answers wished for."""
    rows = []
    for world, much in wishes:
        rows.append((answer(base, world), [answer(after, world) for after in afters], much))
    return [
        order for order in permutations(range(len(afters)))
        if all([first_of(start, told, order) == goal for start, told, goal in rows])
    ]


def order_lots(base, afters):
    """Return the ascending list of the ascending lists of orders whose settled codes do the same."""
    rows = _kinds(base, afters)
    found = {}
    for order in permutations(range(len(afters))):
        followed = tuple([first_of(0, row, order) for row in rows])
        found.setdefault(followed, []).append(order)
    return sorted(found.values())


def _settled_end(base, after, found):
    return ("if", base[1], after[1], found, after)


def _shown_end(base, ahead, found):
    return ("if", base[1], ahead[1], found, _NO)


def _kinds(base, afters):
    """Rows of numbers, one for each after, that are equal just if answers are, and 0 for the base's.

    There is a row for all worlds in which the same ones of these answers are equal.
    """
    known = known_for([base] + afters)
    found = woven(known, [base], _first_row)
    for after in afters:
        found = woven(known, [found, after], _longer_row)
    return sorted({end[2] for _, end in ends_of(known, found)})


def _first_row(base):
    return ("row", base[1:], ())


def _longer_row(row, after):
    """The row with the number of one more answer; its terms are those that were told first."""
    _, terms, numbers = row
    made = ("row", terms + after[1:], numbers + (len(terms),))
    for number, term in enumerate(terms):
        made = ("if", term, after[1], ("row", terms, numbers + (number,)), made)
    return made
