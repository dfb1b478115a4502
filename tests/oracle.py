"""What the document says, worked out in the plainest way, without the package."""

import functools
import itertools
import re

WORDS = ("alike", "go", "if", "no", "tell", "unlike", "with", "yes")


def is_integer(thing):
    return type(thing) is int


def is_name(thing):
    return type(thing) is str and re.fullmatch("[a-z]{1,8}", thing) is not None and thing not in WORDS


def is_term(thing):
    return type(thing) is tuple and len(thing) > 0 and is_name(thing[0]) and all(is_term(part) for part in thing[1:])


def _is_if(thing, check):
    return (type(thing) is tuple and len(thing) == 5 and type(thing[0]) is str and thing[0] == "if"
            and is_term(thing[1]) and is_term(thing[2]) and check(thing[3]) and check(thing[4]))


def is_code(thing):
    tell = type(thing) is tuple and len(thing) == 2 and type(thing[0]) is str and thing[0] == "tell"
    return tell and is_term(thing[1]) or _is_if(thing, is_code)


def is_guard(thing):
    end = type(thing) is tuple and len(thing) == 1 and type(thing[0]) is str and thing[0] in ("yes", "no")
    return end or _is_if(thing, is_guard)


def is_paper(thing):
    end = type(thing) is tuple and len(thing) == 1 and type(thing[0]) is str and thing[0] == "met"
    return end or _is_if(thing, is_paper)


def is_fact(thing):
    return (type(thing) is tuple and len(thing) == 3 and type(thing[0]) is str and thing[0] in ("alike", "unlike")
            and is_term(thing[1]) and is_term(thing[2]))


def is_key(thing):
    return (type(thing) is tuple and len(thing) > 0 and is_name(thing[0])
            and all(is_integer(part) and part >= 0 for part in thing[1:]))


def is_world(thing):
    return type(thing) is dict and all(is_key(key) and is_integer(thing[key]) and thing[key] >= 0 for key in thing)


def subterms(term):
    found = [term]
    for part in term[1:]:
        found += subterms(part)
    return closed_list(found)


def closed_list(found):
    return [each for each, _ in itertools.groupby(sorted(found))]


def closed(terms):
    return closed_list([part for term in terms for part in subterms(term)])


def worth(term, world):
    key = (term[0],) + tuple(worth(part, world) for part in term[1:])
    return world[key] if key in world else 0


def holds(fact, world):
    same = worth(fact[1], world) == worth(fact[2], world)
    return same if fact[0] == "alike" else not same


def partitions(things):
    """All ways to put things into lots, each lot and each way in the order of things."""
    if not things:
        return [()]
    found = []
    for rest in partitions(things[1:]):
        found.append(((things[0],),) + rest)
        for at in range(len(rest)):
            found.append(rest[:at] + ((things[0],) + rest[at],) + rest[at + 1:])
    return [tuple(sorted(lots)) for lots in found]


def lot_of(shape, term):
    return [number for number, lot in enumerate(shape) if term in lot][0]


def keeps_works(shape):
    """Whether works of parts in the same lots are in the same lots."""
    terms = [term for lot in shape for term in lot]
    for one, other in itertools.combinations(terms, 2):
        if one[0] == other[0] and len(one) == len(other) and lot_of(shape, one) != lot_of(shape, other):
            if all(lot_of(shape, first) == lot_of(shape, second) for first, second in zip(one[1:], other[1:])):
                return False
    return True


@functools.lru_cache(maxsize=None)
def _shapes(terms):
    return sorted(shape for shape in partitions(terms) if keeps_works(shape))


def shapes(terms):
    return list(_shapes(tuple(terms)))


def world_of(shape):
    world = {}
    for number, lot in enumerate(shape):
        for term in lot:
            world[(term[0],) + tuple(lot_of(shape, part) for part in term[1:])] = number
    return {key: world[key] for key in sorted(world)}


@functools.lru_cache(maxsize=None)
def _worlds(terms):
    return [world_of(shape) for shape in _shapes(terms)]


def worlds(terms):
    """One world for each shape of the closed list of some terms."""
    return _worlds(tuple(closed(terms)))


def fact_terms(facts):
    return [term for fact in facts for term in fact[1:]]


def can_hold(facts):
    return any(all(holds(fact, world) for fact in facts) for world in worlds(fact_terms(facts)))


def follows(facts, fact):
    return all(holds(fact, world) for world in worlds(fact_terms(facts + [fact]))
               if all(holds(other, world) for other in facts))


def least(many, does):
    """The least lots of so many indexes that do something."""
    lots = [lot for size in range(many + 1) for lot in itertools.combinations(range(many), size) if does(lot)]
    return sorted(lot for lot in lots if not any(set(other) < set(lot) for other in lots))


def answer(code, world):
    if code[0] == "tell":
        return worth(code[1], world)
    return answer(code[3 if holds(("alike", code[1], code[2]), world) else 4], world)


def code_terms(code):
    if code[0] == "if":
        return [code[1], code[2]] + code_terms(code[3]) + code_terms(code[4])
    return [code[1]] if code[0] == "tell" else []


def ways(code):
    if code[0] != "if":
        return [((), code[1] if code[0] == "tell" else code[0] == "yes")]
    yes, no = ("alike", code[1], code[2]), ("unlike", code[1], code[2])
    return ([((yes,) + facts, end) for facts, end in ways(code[3])]
            + [((no,) + facts, end) for facts, end in ways(code[4])])


def do_same(one, other):
    return all(answer(one, world) == answer(other, world) for world in worlds(code_terms(one) + code_terms(other)))


def trimmed(code, facts=()):
    if code[0] != "if":
        return code
    yes, no = ("alike", code[1], code[2]), ("unlike", code[1], code[2])
    if follows(list(facts), yes):
        return trimmed(code[3], facts)
    if follows(list(facts), no):
        return trimmed(code[4], facts)
    return ("if", code[1], code[2], trimmed(code[3], facts + (yes,)), trimmed(code[4], facts + (no,)))


def places(code, place=()):
    """The places of the ifs of a code."""
    if code[0] != "if":
        return []
    return [place] + places(code[3], place + ("yes",)) + places(code[4], place + ("no",))


def with_side(code, place, word):
    """The code with a side of the if at a place in this if's place."""
    if not place:
        return code[3 if word == "yes" else 4]
    if place[0] == "yes":
        return code[:3] + (with_side(code[3], place[1:], word), code[4])
    return code[:4] + (with_side(code[4], place[1:], word),)


def idle_ifs(code):
    return sorted((place, word) for place in places(code) for word in ("no", "yes")
                  if do_same(code, with_side(code, place, word)))


def settled_end(code, facts):
    """The term to which a code comes by ifs that facts settle, or None."""
    while code[0] == "if":
        if follows(facts, ("alike", code[1], code[2])):
            code = code[3]
        elif follows(facts, ("unlike", code[1], code[2])):
            code = code[4]
        else:
            return None
    return code[1]


def is_right(one, other, facts):
    if not can_hold(facts):
        return True
    first, second = settled_end(one, facts), settled_end(other, facts)
    return first is not None and second is not None and follows(facts, ("alike", first, second))


def is_paper_of(one, other, thing):
    """Whether a paper by its form is one of two codes."""
    return all(is_right(one, other, list(facts)) for facts, _ in ways(thing))


def is_pair(step):
    return type(step) is tuple and len(step) == 2 and is_term(step[0]) and is_term(step[1])


def is_reason(facts, one, other, thing):
    if type(thing) is not list or not thing or not all(is_pair(step) for step in thing) or thing[-1] != (one, other):
        return False
    return all(is_justified(facts, step, thing[:at]) for at, step in enumerate(thing))


def is_justified(facts, step, ahead):
    first, second = step
    if first == second or ("alike", first, second) in facts or ("alike", second, first) in facts:
        return True
    if (second, first) in ahead:
        return True
    if any(start == first and (middle, second) in ahead for start, middle in ahead):
        return True
    if first[0] != second[0] or len(first) != len(second) or len(first) == 1:
        return False
    return all(one == other or (one, other) in ahead for one, other in zip(first[1:], second[1:]))
