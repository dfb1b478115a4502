"""Lots of terms, told by numbers, and what must be joined when some are joined.

The terms of a closed list are told by their numbers there. Lots are a list of
integers, one for each term: terms with equal ones are in one lot.
"""

from answerskept.terms import mark


def numbered(terms):
    """Return a dict from the marks of terms to their numbers in the list."""
    return {mark(term): number for number, term in enumerate(terms)}


def works_of(terms):
    """Return tuples (number, name, numbers of the parts), one for each term with parts."""
    numbers = numbered(terms)
    return [
        (number, term[0], tuple([numbers[mark(part)] for part in term[1:]]))
        for number, term in enumerate(terms) if len(term) > 1
    ]


def united(lots, one, other):
    """Return the lots with those of two terms made one."""
    low, high = min(lots[one], lots[other]), max(lots[one], lots[other])
    return [low if lot == high else lot for lot in lots]


def unjoined(works, lots):
    """Return pairs of works of one name, with parts in the same lots, in unlike lots."""
    first = {}
    found = []
    for number, name, parts in works:
        other = first.setdefault((name,) + tuple([lots[part] for part in parts]), number)
        if lots[other] != lots[number]:
            found.append((other, number))
    return found


def joined(works, lots, pairs):
    """Return the lots in which the terms of pairs are joined, and of works what must be then."""
    now = list(lots)
    waiting = list(pairs)
    while waiting:
        for one, other in waiting:
            if now[one] != now[other]:
                now = united(now, one, other)
        waiting = unjoined(works, now)
    return now


def grouped(terms, lots):
    """Return the tuple of the lots, with the terms themselves, ascending."""
    found = {}
    for term, lot in zip(terms, lots):
        found.setdefault(lot, []).append(term)
    # Terms come in ascending order, so the lots are begun in ascending order, too.
    return tuple([tuple(lot) for lot in found.values()])
