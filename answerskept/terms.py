"""Terms, and what they are made of [22]."""


def mark(term):
    """Return a string of its own for each term; strings and terms have one order.

    Terms may be nested too deep for a key, so their marks are the keys.
    """
    # Both parentheses stand ahead of all letters: so a name is less than a longer
    # one that begins with it, and a term less than one with more parts behind its own.
    text = term[0] + "("
    for part in term[1:]:
        text = text + mark(part)
    return text + ")"


def subterms(term):
    """Return the ascending list of the subterms of a term, each once."""
    return closed([term])


def closed(terms):
    """Return the closed list of all subterms of some terms."""
    found = {}
    waiting = list(terms)
    while waiting:
        term = waiting.pop()
        text = mark(term)
        if text not in found:
            found[text] = term
            waiting.extend(term[1:])
    return [found[text] for text in sorted(found)]


def things(term):
    """Return the ascending list of the names of the things of a term, each once."""
    return sorted({part[0] for part in subterms(term) if len(part) == 1})


def put_in(term, names):
    """Return the term with terms in the place of its things, as a dict of names tells."""
    if len(term) == 1:
        return names.get(term[0], term)
    whole = term[:1]
    for part in term[1:]:
        whole = whole + (put_in(part, names),)
    return whole
