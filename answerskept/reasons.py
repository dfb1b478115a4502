"""Reasons that lead from facts to two terms that are alike [32]."""

from answerskept.closing import numbered, united, unjoined, works_of
from answerskept.forms import is_term
from answerskept.terms import closed, mark


def reason(facts, one, other):
    """Return a reason that leads from facts to what is alike by them, or None."""
    if one == other:
        return [(one, other)]
    given = _given(facts)
    terms = closed([term for pair in given for term in pair] + [one, other])
    numbers = numbered(terms)
    pairs = [(numbers[mark(first)], numbers[mark(second)]) for first, second in given]
    steps = _steps(len(terms), works_of(terms), pairs)
    goal = (numbers[mark(one)], numbers[mark(other)])
    if goal not in steps:
        return None
    return [(terms[first], terms[second]) for first, second in steps[:steps.index(goal) + 1]]


def is_reason(facts, one, other, thing):
    """Whether thing, any value, is a reason that leads from facts to two terms."""
    if not isinstance(thing, list) or not thing or not all([_is_pair(step) for step in thing]):
        return False
    if thing[-1] != (one, other):
        return False
    given = {(mark(first), mark(second)): True for first, second in _given(facts)}
    ahead = {}
    for first, second in thing:
        if not _is_justified(first, second, given, ahead):
            return False
        ahead[(mark(first), mark(second))] = True
    return True


def _given(facts):
    """The pairs that facts say to be alike."""
    return [fact[1:] for fact in facts if fact[0] == "alike"]


def _is_pair(thing):
    return isinstance(thing, tuple) and len(thing) == 2 and is_term(thing[0]) and is_term(thing[1])


def _steps(many, works, pairs):
    """Tuples of numbers of all terms that are alike, each justified by what stands ahead of it."""
    lots = list(range(many))
    steps = []
    waiting = pairs
    while waiting:
        for one, other in waiting:
            if lots[one] != lots[other]:
                steps.extend(_crossing(lots, one, other))
                lots = united(lots, one, other)
        waiting = unjoined(works, lots)
    return steps


def _crossing(lots, one, other):
    """What must stand in a reason, behind (one, other), when the lots of these two are joined.

    All tuples within the two lots stand ahead already, and those across them are told here.
    """
    steps = [(one, other), (other, one)]
    near = [number for number, lot in enumerate(lots) if lot == lots[one]]
    far = [number for number, lot in enumerate(lots) if lot == lots[other] and number != other]
    for number in near:
        if number != one:
            steps.extend([(number, other), (other, number)])
    for number in far:
        for start in near:
            steps.extend([(start, number), (number, start)])
    return steps


def _is_justified(first, second, given, ahead):
    start, end = mark(first), mark(second)
    if start == end or (start, end) in given or (end, start) in given or (end, start) in ahead:
        return True
    if any([(middle, end) in ahead for begin, middle in ahead if begin == start]):
        return True
    # Things of one name are equal, so here only works are of one name and as many parts.
    if first[0] != second[0] or len(first) != len(second):
        return False
    return all([_stands(one, other, ahead) for one, other in zip(first[1:], second[1:])])


def _stands(one, other, ahead):
    return one == other or (mark(one), mark(other)) in ahead
