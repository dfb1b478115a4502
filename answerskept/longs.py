"""What long codes are made of: their parts, with places, and what these say.

A step leads from tuple to tuple, as DOC.md's places do; so parts are found by steps alone.
"""


def below(part):
    """Return tuples (steps, part) for the terms and long codes right below a term or a long code."""
    word = part[0]
    if word == "go":
        return [((2, number), term) for number, term in enumerate(part[2])]
    first = 2 if word == "with" else 1
    return [((step,), part[step]) for step in range(first, len(part))]


def parts_of(code):
    """Return tuples (place, part) for a long code and for all terms and long codes in it."""
    found = []
    waiting = [((), code)]
    while waiting:
        place, part = waiting.pop()
        found.append((place, part))
        waiting.extend([(place + steps, less) for steps, less in below(part)])
    return found


def put_at(code, place, part):
    """Return the long code with a part put at a place."""
    passed = []
    here = code
    for step in place:
        passed.append((here, step))
        here = here[step]
    made = part
    for around, step in reversed(passed):
        made = around[:step] + (made,) + around[step + 1:]
    return made


def gos_in(code):
    """Return tuples (function, terms) for the gos of a long code."""
    return [part[1:] for _, part in parts_of(code) if part[0] == "go"]


def loose_in(code, givens):
    """Return the names of the things that are no givens and stand in the body of no with of their name."""
    found = []
    waiting = [(code, list(givens))]
    while waiting:
        part, names = waiting.pop()
        if len(part) == 1 and part[0] not in names:
            found.append(part[0])
        for steps, less in below(part):
            is_body = part[0] == "with" and steps == (3,)
            waiting.append((less, names + [part[1]] if is_body else names))
    return found
