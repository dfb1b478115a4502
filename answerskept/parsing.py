"""What texts may write, part by part.

Nothing here looks at whether a text is right: what is wrong comes out as anything, and
those that read texts see whether what came out is of the right form, and is written so.
"""

# How many words, or things that are made of words, stand behind a word of the notation.
_TAKES = {"alike": 2, "go": 2, "if": 4, "no": 0, "tell": 1, "unlike": 2, "with": 3, "yes": 0}


def pieces_of(text):
    """Return the words of a text, with each guard, fact and long code made in the place of its words."""
    found = []
    # From the last word on, so that what a word takes has been made already.
    for word in reversed(text.split(" ")):
        many = _TAKES.get(word)
        if many is not None and many <= len(found):
            found = [_made(word, found[:many])] + found[many:]
        else:
            found = [word] + found
    return found


def thing_in(text):
    """Return the guard, fact or long code that a text may write."""
    pieces = pieces_of(text)
    return pieces[0] if len(pieces) == 1 else None


def term_in(piece):
    """Return the term that a piece of a text may write; a piece that is no word stays as it is."""
    if not isinstance(piece, str):
        return piece
    begun = [[]]
    name = ""
    for sign in piece:
        if sign not in "(,)":
            name = name + sign
            continue
        if sign == "(":
            begun.append([name])
        elif name:
            begun[-1].append((name,))
        name = ""
        if sign == ")" and len(begun) > 1:
            done = begun.pop()
            begun[-1].append(tuple(done))
    if name:
        begun[-1].append((name,))
    return begun[0][0] if len(begun[0]) == 1 else None


def number_in(piece):
    """Return the integer from 0 on that a piece of a text may write."""
    return int(piece) if isinstance(piece, str) and piece.isdecimal() else None


def place_in(piece):
    """Return the place that a piece of a text may write."""
    if not isinstance(piece, str):
        return None
    return () if piece == "-" else tuple([number_in(step) for step in piece.split(".")])


def world_in(text):
    """Return the world that a text may write."""
    if text == "-":
        return {}
    found = {}
    for word in text.split(" "):
        key, _, much = word.partition("=")
        name, bracket, numbers = key.partition("(")
        parts = numbers.removesuffix(")").split(",") if bracket else []
        found[(name,) + tuple([number_in(part) for part in parts])] = number_in(much)
    return found


def _made(word, parts):
    if word == "go":
        return (word, parts[0], _terms_in(parts[1]))
    if word == "with":
        return (word,) + tuple(parts)
    return (word,) + tuple([term_in(part) for part in parts[:2]]) + tuple(parts[2:])


def _terms_in(piece):
    """The tuple of terms that a piece of a text may write, in parentheses."""
    # Behind a name it writes a term, with these as its parts.
    found = term_in("x" + piece) if isinstance(piece, str) else None
    return found[1:] if isinstance(found, tuple) else None
