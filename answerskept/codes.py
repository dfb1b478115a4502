"""Codes and guards: their answers, their ways, and what they ask [40]."""

from answerskept.known import known_of
from answerskept.shapes import lot_numbers
from answerskept.terms import closed, mark
from answerskept.worlds import alike, worth


def answer(code, world):
    """Return the answer of a code in a world."""
    here = code
    while here[0] == "if":
        here = here[3] if alike(here[1], here[2], world) else here[4]
    return worth(here[1], world)


def ways(code):
    """Return the list of the ways of a code or a guard, in order."""
    if code[0] == "if":
        return _led("alike", code, code[3]) + _led("unlike", code, code[4])
    if code[0] == "tell":
        return [((), code[1])]
    return [((), code[0] == "yes")]


def asked(things):
    """Return the asked terms of a list of codes, guards, facts and terms."""
    found = []
    waiting = list(things)
    while waiting:
        thing = waiting.pop()
        word = thing[0]
        if word == "if":
            found.extend(thing[1:3])
            waiting.extend(thing[3:])
        elif word in ("tell", "alike", "unlike"):
            found.extend(thing[1:])
        elif word not in ("yes", "no"):
            found.append(thing)
    return closed(found)


def told_at(code, shape):
    """Return the term that a code comes to tell in the worlds with a shape."""
    numbers = lot_numbers(shape)
    here = code
    while here[0] == "if":
        here = here[3] if numbers[mark(here[1])] == numbers[mark(here[2])] else here[4]
    return here[1]


def depth(code):
    """Return the greatest number of facts of a way of a code or a guard."""
    return max([len(facts) for facts, _ in ways(code)])


def trimmed(code):
    """Return a code or a guard without ifs that are settled on their way."""
    return _trimmed(code, known_of(asked([code]), []))


def _led(word, code, side):
    fact = (word,) + code[1:3]
    return [((fact,) + facts, end) for facts, end in ways(side)]


def _trimmed(code, known):
    here = known.led(code)
    if here[0] != "if":
        return here
    _, one, other, yes, no = here
    less = _trimmed(yes, known.also(("alike", one, other)))
    return ("if", one, other, less, _trimmed(no, known.also(("unlike", one, other))))
