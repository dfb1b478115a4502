"""Texts that write terms, codes, guards, facts, claims, worlds, edits and programs [110]."""

from answerskept.forms import is_term


def show_term(term):
    """Return the text of a term."""
    texts = []
    # Texts and terms that are still to be written, the next one last.
    waiting = [term]
    while waiting:
        part = waiting.pop()
        if isinstance(part, str):
            texts.append(part)
        else:
            waiting.extend(_around(part[1:])[::-1])
            waiting.append(part[0])
    return "".join(texts)


def show_code(code):
    """Return the text of a long code."""
    return _shown(code)


def show_guard(guard):
    """Return the text of a guard."""
    return _shown(guard)


def show_fact(fact):
    """Return the text of a fact."""
    return _shown(fact)


def show_claim(claim):
    """Return the text of a claim."""
    guard, term = claim
    return f"{show_guard(guard)} {show_term(term)}"


def show_world(world):
    """Return the text of a world."""
    if not world:
        return "-"
    return " ".join([f"{_shown_key(key)}={world[key]}" for key in sorted(world)])


def show_edit(edit):
    """Return the text of an edit."""
    function, place, part = edit
    steps = ".".join([str(step) for step in place]) if place else "-"
    text = show_term(part) if is_term(part) else show_code(part)
    return f"{function} {steps} {text}"


def show_program(program):
    """Return the text of a program, a line for each function."""
    lines = []
    for name in program.functions():
        givens = ",".join(program.givens(name))
        lines.append(f"{name} {givens} {show_code(program.code(name))}\n")
    return "".join(lines)


def _around(parts):
    """The parts of a term with the signs around and between them."""
    if not parts:
        return []
    found = ["("]
    for part in parts:
        found.extend([part, ","])
    found[-1] = ")"
    return found


def _shown(thing):
    """The text of a long code, a guard or a fact."""
    words = []
    waiting = [thing]
    while waiting:
        part = waiting.pop()
        word = part[0]
        words.append(word)
        if word == "go":
            words.extend([part[1], _shown_terms(part[2])])
        elif word == "with":
            words.append(part[1])
            waiting.extend([part[3], part[2]])
        else:
            words.extend([show_term(term) for term in part[1:3]])
            waiting.extend(part[3:][::-1])
    return " ".join(words)


def _shown_terms(terms):
    texts = ",".join([show_term(term) for term in terms])
    return f"({texts})"


def _shown_key(key):
    numbers = ",".join([str(number) for number in key[1:]])
    return f"{key[0]}({numbers})" if numbers else key[0]
