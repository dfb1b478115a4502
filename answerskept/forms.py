"""Forms: whether any value is what a name of the document says [21]."""

_NO_NAMES = ("alike", "go", "if", "no", "tell", "unlike", "with", "yes")


def is_integer(thing):
    """Whether thing is an integer; True and False are none."""
    return isinstance(thing, int) and not isinstance(thing, bool)


def is_name(thing):
    """Whether thing is one to eight letters, and no word of codes, guards and facts."""
    if not isinstance(thing, str) or not 1 <= len(thing) <= 8:
        return False
    return thing not in _NO_NAMES and all(["a" <= sign <= "z" for sign in thing])


def are_names(thing):
    """Whether thing is a list or a tuple of different names, at least one."""
    if not isinstance(thing, (list, tuple)) or not thing or not all([is_name(name) for name in thing]):
        return False
    return len(set(thing)) == len(thing)


def is_term(thing):
    """Whether thing is a name with any number of terms as its parts."""
    # A list of what is left to look at, since terms may be deeper than calls should be.
    waiting = [thing]
    while waiting:
        part = waiting.pop()
        if not isinstance(part, tuple) or not part or not is_name(part[0]):
            return False
        waiting.extend(part[1:])
    return True


def is_fork(thing):
    """Whether thing begins an if over two terms, whatever its sides are."""
    if not isinstance(thing, tuple) or len(thing) != 5:
        return False
    return thing[0] == "if" and is_term(thing[1]) and is_term(thing[2])


def is_tell(thing):
    """Whether thing tells a term."""
    return isinstance(thing, tuple) and len(thing) == 2 and thing[0] == "tell" and is_term(thing[1])


def is_forked(thing, is_end):
    """Whether thing is made of ifs over terms, and of ends as a function tells them."""
    waiting = [thing]
    while waiting:
        part = waiting.pop()
        if not is_end(part):
            if not is_fork(part):
                return False
            waiting.extend(part[3:])
    return True


def is_code(thing):
    """Whether thing is a code."""
    return is_forked(thing, is_tell)


def is_guard(thing):
    """Whether thing is a guard."""
    return is_forked(thing, _is_guard_end)


def is_fact(thing):
    """Whether thing says of two terms that they are alike, or unlike."""
    if not isinstance(thing, tuple) or len(thing) != 3:
        return False
    return thing[0] in ("alike", "unlike") and is_term(thing[1]) and is_term(thing[2])


def is_world(thing):
    """Whether thing is a dict from keys of worlds to integers from 0 on."""
    if not isinstance(thing, dict):
        return False
    return all([_is_key(key) and _is_count(much) for key, much in thing.items()])


def _is_guard_end(thing):
    return thing in (("yes",), ("no",))


def _is_key(thing):
    if not isinstance(thing, tuple) or not thing or not is_name(thing[0]):
        return False
    return all([_is_count(number) for number in thing[1:]])


def _is_count(thing):
    return is_integer(thing) and thing >= 0
