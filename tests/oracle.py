"""What the document says, worked out in the plainest way, without the package."""

import functools
import itertools
import re

WORDS = ("alike", "go", "if", "no", "tell", "unlike", "with", "yes")


def is_integer(thing):
    return type(thing) is int


def is_name(thing):
    return type(thing) is str and re.fullmatch("[a-z]{1,8}", thing) is not None and thing not in WORDS


def is_term(thing):
    return type(thing) is tuple and len(thing) > 0 and is_name(thing[0]) and all(is_term(part) for part in thing[1:])


def _is_if(thing, check):
    return (type(thing) is tuple and len(thing) == 5 and type(thing[0]) is str and thing[0] == "if"
            and is_term(thing[1]) and is_term(thing[2]) and check(thing[3]) and check(thing[4]))


def is_code(thing):
    tell = type(thing) is tuple and len(thing) == 2 and type(thing[0]) is str and thing[0] == "tell"
    return tell and is_term(thing[1]) or _is_if(thing, is_code)


def is_guard(thing):
    end = type(thing) is tuple and len(thing) == 1 and type(thing[0]) is str and thing[0] in ("yes", "no")
    return end or _is_if(thing, is_guard)


def is_paper(thing):
    end = type(thing) is tuple and len(thing) == 1 and type(thing[0]) is str and thing[0] == "met"
    return end or _is_if(thing, is_paper)


def is_fact(thing):
    return (type(thing) is tuple and len(thing) == 3 and type(thing[0]) is str and thing[0] in ("alike", "unlike")
            and is_term(thing[1]) and is_term(thing[2]))


def is_key(thing):
    return (type(thing) is tuple and len(thing) > 0 and is_name(thing[0])
            and all(is_integer(part) and part >= 0 for part in thing[1:]))


def is_world(thing):
    return type(thing) is dict and all(is_key(key) and is_integer(thing[key]) and thing[key] >= 0 for key in thing)


def subterms(term):
    found = [term]
    for part in term[1:]:
        found += subterms(part)
    return closed_list(found)


def closed_list(found):
    return [each for each, _ in itertools.groupby(sorted(found))]


def closed(terms):
    return closed_list([part for term in terms for part in subterms(term)])


def worth(term, world):
    key = (term[0],) + tuple(worth(part, world) for part in term[1:])
    return world[key] if key in world else 0


def holds(fact, world):
    same = worth(fact[1], world) == worth(fact[2], world)
    return same if fact[0] == "alike" else not same


def partitions(things):
    """All ways to put things into lots, each lot and each way in the order of things."""
    if not things:
        return [()]
    found = []
    for rest in partitions(things[1:]):
        found.append(((things[0],),) + rest)
        for at in range(len(rest)):
            found.append(rest[:at] + ((things[0],) + rest[at],) + rest[at + 1:])
    return [tuple(sorted(lots)) for lots in found]


def lot_of(shape, term):
    return [number for number, lot in enumerate(shape) if term in lot][0]


def keeps_works(shape):
    """Whether works of parts in the same lots are in the same lots."""
    terms = [term for lot in shape for term in lot]
    for one, other in itertools.combinations(terms, 2):
        if one[0] == other[0] and len(one) == len(other) and lot_of(shape, one) != lot_of(shape, other):
            if all(lot_of(shape, first) == lot_of(shape, second) for first, second in zip(one[1:], other[1:])):
                return False
    return True


@functools.lru_cache(maxsize=None)
def _shapes(terms):
    return sorted(shape for shape in partitions(terms) if keeps_works(shape))


def shapes(terms):
    return list(_shapes(tuple(terms)))


def world_of(shape):
    world = {}
    for number, lot in enumerate(shape):
        for term in lot:
            world[(term[0],) + tuple(lot_of(shape, part) for part in term[1:])] = number
    return {key: world[key] for key in sorted(world)}


@functools.lru_cache(maxsize=None)
def _worlds(terms):
    return [world_of(shape) for shape in _shapes(terms)]


def worlds(terms):
    """One world for each shape of the closed list of some terms."""
    return _worlds(tuple(closed(terms)))


def fact_terms(facts):
    return [term for fact in facts for term in fact[1:]]


def can_hold(facts):
    return any(all(holds(fact, world) for fact in facts) for world in worlds(fact_terms(facts)))


def follows(facts, fact):
    return all(holds(fact, world) for world in worlds(fact_terms(facts + [fact]))
               if all(holds(other, world) for other in facts))


def least(many, does):
    """The least lots of so many indexes that do something."""
    lots = [lot for size in range(many + 1) for lot in itertools.combinations(range(many), size) if does(lot)]
    return sorted(lot for lot in lots if not any(set(other) < set(lot) for other in lots))


def answer(code, world):
    if code[0] == "tell":
        return worth(code[1], world)
    return answer(code[3 if holds(("alike", code[1], code[2]), world) else 4], world)


def code_terms(code):
    if code[0] == "if":
        return [code[1], code[2]] + code_terms(code[3]) + code_terms(code[4])
    return [code[1]] if code[0] == "tell" else []


def ways(code):
    if code[0] != "if":
        return [((), code[1] if code[0] == "tell" else code[0] == "yes")]
    yes, no = ("alike", code[1], code[2]), ("unlike", code[1], code[2])
    return ([((yes,) + facts, end) for facts, end in ways(code[3])]
            + [((no,) + facts, end) for facts, end in ways(code[4])])


def do_same(one, other):
    return all(answer(one, world) == answer(other, world) for world in worlds(code_terms(one) + code_terms(other)))


def trimmed(code, facts=()):
    if code[0] != "if":
        return code
    yes, no = ("alike", code[1], code[2]), ("unlike", code[1], code[2])
    if follows(list(facts), yes):
        return trimmed(code[3], facts)
    if follows(list(facts), no):
        return trimmed(code[4], facts)
    return ("if", code[1], code[2], trimmed(code[3], facts + (yes,)), trimmed(code[4], facts + (no,)))


def places(code, place=()):
    """The places of the ifs of a code."""
    if code[0] != "if":
        return []
    return [place] + places(code[3], place + ("yes",)) + places(code[4], place + ("no",))


def with_side(code, place, word):
    """The code with a side of the if at a place in this if's place."""
    if not place:
        return code[3 if word == "yes" else 4]
    if place[0] == "yes":
        return code[:3] + (with_side(code[3], place[1:], word), code[4])
    return code[:4] + (with_side(code[4], place[1:], word),)


def idle_ifs(code):
    return sorted((place, word) for place in places(code) for word in ("no", "yes")
                  if do_same(code, with_side(code, place, word)))


def settled_end(code, facts):
    """The term to which a code comes by ifs that facts settle, or None."""
    while code[0] == "if":
        if follows(facts, ("alike", code[1], code[2])):
            code = code[3]
        elif follows(facts, ("unlike", code[1], code[2])):
            code = code[4]
        else:
            return None
    return code[1]


def is_right(one, other, facts):
    if not can_hold(facts):
        return True
    first, second = settled_end(one, facts), settled_end(other, facts)
    return first is not None and second is not None and follows(facts, ("alike", first, second))


def is_paper_of(one, other, thing):
    """Whether a paper by its form is one of two codes."""
    return all(is_right(one, other, list(facts)) for facts, _ in ways(thing))


def is_pair(step):
    return type(step) is tuple and len(step) == 2 and is_term(step[0]) and is_term(step[1])


def is_reason(facts, one, other, thing):
    if type(thing) is not list or not thing or not all(is_pair(step) for step in thing) or thing[-1] != (one, other):
        return False
    return all(is_justified(facts, step, thing[:at]) for at, step in enumerate(thing))


def is_justified(facts, step, ahead):
    first, second = step
    if first == second or ("alike", first, second) in facts or ("alike", second, first) in facts:
        return True
    if (second, first) in ahead:
        return True
    if any(start == first and (middle, second) in ahead for start, middle in ahead):
        return True
    if first[0] != second[0] or len(first) != len(second) or len(first) == 1:
        return False
    return all(one == other or (one, other) in ahead for one, other in zip(first[1:], second[1:]))


def is_long(thing):
    if type(thing) is not tuple or not thing or type(thing[0]) is not str:
        return False
    if thing[0] == "with":
        return len(thing) == 4 and is_name(thing[1]) and is_long(thing[2]) and is_long(thing[3])
    if thing[0] == "go":
        return len(thing) == 3 and is_name(thing[1]) and type(thing[2]) is tuple and all(map(is_term, thing[2]))
    if thing[0] == "if":
        return len(thing) == 5 and all(map(is_term, thing[1:3])) and all(map(is_long, thing[3:]))
    return thing[0] == "tell" and len(thing) == 2 and is_term(thing[1])


def are_givens(thing):
    return (type(thing) in (list, tuple) and len(thing) > 0 and all(is_name(name) for name in thing)
            and all(thing.count(name) == 1 for name in thing))


def are_functions(thing):
    return (type(thing) is dict and len(thing) > 0 and all(is_name(name) for name in thing)
            and all(type(part) is tuple and len(part) == 2 and are_givens(part[0]) and is_long(part[1])
                    for part in thing.values()))


def gos(code):
    if code[0] == "go":
        return [(code[1], len(code[2]))]
    return [go for part in code[1:] if is_long(part) for go in gos(part)]


def leads(functions, start, goal, ahead=()):
    """Whether gos lead from a function to another one."""
    after = {name for name, _ in gos(functions[start][1])}
    return goal in after or any(leads(functions, name, goal, ahead + (name,)) for name in after if name not in ahead)


def things_of(term):
    return [part[0] for part in subterms(term) if len(part) == 1]


def loose(code, names):
    if code[0] == "with":
        return loose(code[2], names) + loose(code[3], names + [code[1]])
    terms = code[2] if code[0] == "go" else [part for part in code[1:] if is_term(part)]
    found = [name for term in terms for name in things_of(term) if name not in names]
    return found + [name for part in code[1:] if is_long(part) for name in loose(part, names)]


def refusal(functions):
    """What stands against any value as functions of a Program: a tuple (error, argument ..), or None."""
    if not are_functions(functions):
        return ("Wrong", 0)
    called = [go for _, code in functions.values() for go in gos(code)]
    kinds = [("Missing", [(name,) for name, _ in called if name not in functions])]
    kinds.append(("Uneven", [(name,) for name, many in called if name in functions and len(functions[name][0]) != many]))
    if not kinds[0][1]:
        kinds.append(("Round", [(name,) for name in functions if leads(functions, name, name)]))
    kinds.append(("Loose", [(name, each) for name, (givens, code) in functions.items()
                            for each in loose(code, list(givens))]))
    return next(((word,) + min(found) for word, found in kinds if found), None)


def put(term, names):
    if len(term) == 1:
        return names[term[0]] if term[0] in names else term
    return (term[0],) + tuple(put(part, names) for part in term[1:])


def whole(functions, name):
    givens, code = functions[name]
    return _whole(functions, code, {given: (given,) for given in givens})


def _whole(functions, code, names):
    if code[0] == "tell":
        return ("tell", put(code[1], names))
    if code[0] == "if":
        yes, no = (_whole(functions, part, names) for part in code[3:])
        return ("if", put(code[1], names), put(code[2], names), yes, no)
    if code[0] == "go":
        givens, inside = functions[code[1]]
        return _whole(functions, inside, dict(zip(givens, [put(term, names) for term in code[2]])))
    inner = _whole(functions, code[2], names)
    return _at_tells(inner, lambda term: _whole(functions, code[3], {**names, code[1]: term}))


def _at_tells(code, make):
    if code[0] == "tell":
        return make(code[1])
    return code[:3] + (_at_tells(code[3], make), _at_tells(code[4], make))


def ran(functions, name, world):
    givens, code = functions[name]
    return _run(functions, code, {given: world.get((given,), 0) for given in givens}, world)


def _run(functions, code, worths, world):
    def much(term):
        if len(term) == 1:
            return worths[term[0]]
        return world.get((term[0],) + tuple(much(part) for part in term[1:]), 0)

    if code[0] == "tell":
        return much(code[1])
    if code[0] == "if":
        return _run(functions, code[3 if much(code[1]) == much(code[2]) else 4], worths, world)
    if code[0] == "go":
        givens, inside = functions[code[1]]
        return _run(functions, inside, dict(zip(givens, map(much, code[2]))), world)
    return _run(functions, code[3], {**worths, code[1]: _run(functions, code[2], worths, world)}, world)


def places_of(part):
    """A dict from the places of a long code, or of a term, to what is there."""
    steps = {"tell": [(1,)], "if": [(1,), (2,), (3,), (4,)], "with": [(2,), (3,)]}
    if part[0] == "go":
        steps["go"] = [(2, number) for number in range(len(part[2]))]
    found = {(): part}
    for step in steps.get(part[0], [(number,) for number in range(1, len(part))]):
        below = part[step[0]] if len(step) == 1 else part[2][step[1]]
        found.update({step + place: each for place, each in places_of(below).items()})
    return found


def put_at(code, place, part):
    if not place:
        return part
    return code[:place[0]] + (put_at(code[place[0]], place[1:], part),) + code[place[0] + 1:]


def is_edit(functions, thing):
    if type(thing) is not tuple or len(thing) != 3 or not is_name(thing[0]) or thing[0] not in functions:
        return False
    if type(thing[1]) is not tuple or not all(is_integer(step) for step in thing[1]):
        return False
    there = places_of(functions[thing[0]][1])
    return thing[1] in there and (is_term if is_term(there[thing[1]]) else is_long)(thing[2])


def begins(one, other):
    """Whether the place of one of two edits of one function begins that of the other."""
    many = min(len(one[1]), len(other[1]))
    return one[0] == other[0] and one[1][:many] == other[1][:many]


def edited(functions, edits):
    """The functions with all edits made, or a tuple (error, argument ..)."""
    overlaps = [(at, to) for at in range(len(edits)) for to in range(at + 1, len(edits)) if begins(edits[at], edits[to])]
    if overlaps:
        return ("Overlap",) + min(overlaps)
    found = dict(functions)
    for name, place, part in edits:
        found[name] = (found[name][0], put_at(found[name][1], place, part))
    return refusal(found) or found


def least_edits(functions, edits, name):
    goal = whole(edited(functions, edits), name)

    def does(lot):
        made = edited(functions, [edits[at] for at in lot])
        return type(made) is dict and do_same(whole(made, name), goal)

    return least(len(edits), does)


def guard_holds(guard, world):
    if guard[0] == "if":
        return guard_holds(guard[3 if holds(("alike", guard[1], guard[2]), world) else 4], world)
    return guard == ("yes",)


def fewest_tests(guard):
    """The least depth, by trying each depth in turn."""
    pool = closed(code_terms(guard))
    told = [(world, guard_holds(guard, world)) for world in worlds(pool)]
    return next(many for many in itertools.count() if _are_told(told, list(itertools.combinations(pool, 2)), many))


def _are_told(told, pairs, many):
    """Whether so many tests tell in which of some worlds a guard holds."""
    if len({holding for _, holding in told}) < 2:
        return True
    if not many:
        return False
    for one, other in pairs:
        sides = [[row for row in told if holds((word, one, other), row[0])] for word in ("alike", "unlike")]
        if all(sides) and all(_are_told(side, pairs, many - 1) for side in sides):
            return True
    return False


def worlds_of(*things):
    """One world for each shape of the asked terms of some codes and guards."""
    return worlds([term for thing in things for term in code_terms(thing)])


def wanted(base, afters, world):
    start = answer(base, world)
    told = {answer(after, world) for after in afters} - {start}
    return None if len(told) > 1 else max(told, default=start)


def loses(base, afters, code, world):
    told = wanted(base, afters, world)
    return told is not None and answer(code, world) != told


def odd_pairs(base, afters, guard=("yes",)):
    """The tuples of two afters that quarrel in some world in which a guard holds."""
    return [(one, other) for one, other in itertools.combinations(range(len(afters)), 2)
            if any(wanted(base, [afters[one], afters[other]], world) is None and guard_holds(guard, world)
                   for world in worlds_of(base, afters[one], afters[other], guard))]


def can_be_kept(base, afters):
    return all(wanted(base, afters, world) is not None for world in worlds_of(base, *afters))


def greatest(many, does):
    """The greatest lots of so many indexes that do something."""
    lots = [lot for size in range(many + 1) for lot in itertools.combinations(range(many), size) if does(lot)]
    return sorted(lot for lot in lots if not any(set(lot) < set(other) for other in lots))


def first_after(base, afters, order, world):
    """The index of the first after in an order that changes the base in a world, or None."""
    return next((index for index in order if answer(afters[index], world) != answer(base, world)), None)


def settled_answer(base, afters, order, world):
    index = first_after(base, afters, order, world)
    return answer(base if index is None else afters[index], world)


def orders(afters):
    return list(itertools.permutations(range(len(afters))))


def order_lots(base, afters):
    lots = {}
    for order in orders(afters):
        told = tuple(settled_answer(base, afters, order, world) for world in worlds_of(base, *afters))
        lots.setdefault(told, []).append(order)
    return sorted(lots.values())


def clashes(sheets):
    return sorted((one, at, other, to) for one, other in itertools.combinations(range(len(sheets)), 2)
                  for at, edit in enumerate(sheets[one]) for to, second in enumerate(sheets[other])
                  if edit != second and begins(edit, second))


def merged(functions, sheets):
    """The functions with all edits of all sheets, or a tuple (error, argument ..)."""
    if clashes(sheets):
        return ("Clash", clashes(sheets)[0][:2], clashes(sheets)[0][2:])
    edits = [edit for sheet in sheets for edit in sheet]
    return edited(functions, [edit for at, edit in enumerate(edits) if edit not in edits[:at]])


def verdict(functions, sheets, name):
    together = merged(functions, sheets)
    base, afters = whole(functions, name), [whole(edited(functions, sheet), name) for sheet in sheets]
    if type(together) is dict:
        code = whole(together, name)
        if any(loses(base, afters, code, world) for world in worlds_of(base, code, *afters)):
            return ("clean", "lost")
    first = "clean" if type(together) is dict else "clash" if together[0] == "Clash" else "broken"
    return (first, "kept" if can_be_kept(base, afters) else "quarrel")


def losing_lots(functions, sheets, name):
    return least(len(sheets), lambda lot: len(lot) > 0 and verdict(
        functions, [sheets[at] for at in lot], name) == ("clean", "lost"))


def carried_answer(before, after, base, world):
    return answer(after if answer(base, world) == answer(before, world) else base, world)


def is_left(before, after, base, world):
    start, goal, told = (answer(code, world) for code in (before, after, base))
    return start != goal and told != start and told != goal


def is_exact(before, after, base):
    return all(answer(before, world) in (answer(after, world), answer(base, world))
               for world in worlds_of(before, after, base))


def led_by(versions, steps, world):
    """The answer, in a world, of what comes of the first version by steps carried to it in order."""
    told = answer(versions[0], world)
    for step in steps:
        told = answer(versions[step], world) if told == answer(versions[step - 1], world) else told
    return told


def steps_but(versions, lot=()):
    return [step for step in range(1, len(versions)) if step not in lot]


def hangs(versions, world):
    lots = [lot for size in range(len(versions)) for lot in itertools.combinations(range(1, len(versions)), size)
            if led_by(versions, steps_but(versions, lot), world) != answer(versions[-1], world)]
    return sorted(lot for lot in lots if not any({*less} < {*lot} for less in lots))


def can_turn(versions, step):
    turned = sorted(steps_but(versions), key=lambda each: step + 1.5 if each == step else each)
    return all(led_by(versions, turned, world) == led_by(versions, steps_but(versions), world)
               for world in worlds_of(*versions))


def is_claim(thing):
    return type(thing) is tuple and len(thing) == 2 and bool(is_guard(thing[0])) and bool(is_term(thing[1]))


def breaks(code, claim, world):
    return guard_holds(claim[0], world) and answer(code, world) != worth(claim[1], world)


def keeps_claim(code, claim):
    return not any(breaks(code, claim, world) for world in worlds_of(claim[0], code, ("tell", claim[1])))


def at_ends(guard, yes, no):
    """The code that goes on as yes where a guard holds, and else as no."""
    if guard[0] != "if":
        return yes if guard == ("yes",) else no
    return guard[:3] + (at_ends(guard[3], yes, no), at_ends(guard[4], yes, no))


def stands(base, claim, guard):
    """By trying codes that tell one term where the guard holds, also a thing that nothing else asks for."""
    pool = closed(code_terms(base) + code_terms(claim[0]) + code_terms(guard) + [claim[1]]) + [("newthing",)]
    return all(keeps_claim(at_ends(guard, ("tell", term), base), claim) for term in pool)


def lost_claims(base, afters, code, claims):
    return [at for at, claim in enumerate(claims)
            if all(keeps_claim(each, claim) for each in [base, *afters]) and not keeps_claim(code, claim)]


def pins(codes, index, claims):
    kept = [[keeps_claim(code, claim) for claim in claims] for code in codes]
    others = [at for at, code in enumerate(codes) if not do_same(code, codes[index])]
    return least(len(claims), lambda lot: all(kept[index][at] for at in lot)
                 and all(not all(kept[other][at] for at in lot) for other in others))


def told_apart(codes, claims):
    kept = [[keeps_claim(code, claim) for claim in claims] for code in codes]
    lots = [[at for at, row in enumerate(kept) if row == each] for each in kept]
    return [lot for at, lot in enumerate(lots) if lot[0] == at]


def wrong_place(inputs, rules):
    """The place that Machine finds wrong in any values, or None."""
    if not are_givens(inputs):
        return 0
    if type(rules) not in (list, tuple) or not rules or not all(type(rule) is dict for rule in rules):
        return 1
    steps = [step for rule in rules for step in rule.values()]
    if any(sorted(map(repr, rule)) != sorted(map(repr, inputs)) for rule in rules):
        return 1
    right = all(type(step) is tuple and len(step) == 2 and is_integer(step[0]) and step[0] in range(len(rules))
                and is_name(step[1]) for step in steps)
    return None if right else 1


def rows(inputs, longest, shortest=0):
    """All rows of inputs up to a length, the shorter ones first."""
    return [list(row) for many in range(shortest, longest + 1) for row in itertools.product(sorted(inputs), repeat=many)]


def state_behind(rules, row, state=0):
    return state_behind(rules, row[1:], rules[state][row[0]][0]) if row else state


def said(rules, row, state=0):
    return [rules[state_behind(rules, row[:at], state)][name][1] for at, name in enumerate(row)]


def parting_lengths(one, other):
    """A dict from tuples of two states that say unlike things to the length of the shortest row at which they do."""
    every = [(first, second) for first in range(len(one)) for second in range(len(other))]
    found, many = {}, 0
    while True:
        many += 1
        new = [(first, second) for first, second in every if (first, second) not in found and any(
            (one[first][name][0], other[second][name][0]) in found if many > 1
            else one[first][name][1] != other[second][name][1] for name in one[0])]
        if not new:
            return found
        found.update({pair: many for pair in new})


def pairs(one, other):
    """The least closed list, ascending, or None."""
    if (0, 0) in parting_lengths(one, other):
        return None
    found = [(0, 0)]
    for first, second in found:
        for name in one[0]:
            behind = (one[first][name][0], other[second][name][0])
            found += [behind] if behind not in found else []
    return sorted(found)


def are_pairs(one, other, thing):
    if type(thing) is not list or not all(type(pair) is tuple and len(pair) == 2 and all(map(is_integer, pair)) for pair in thing):
        return False
    if not all(first in range(len(one)) and second in range(len(other)) for first, second in thing):
        return False
    if any(thing.count(pair) > 1 for pair in thing) or (0, 0) not in thing:
        return False
    return all(one[first][name][1] == other[second][name][1] and (one[first][name][0], other[second][name][0]) in thing
               for first, second in thing for name in one[0])


def folded(rules):
    """The rules with as few states as can be, numbered in the order of the rows that come to them first."""
    unlike = parting_lengths(rules, rules)
    firsts = []
    for row in rows(rules[0], len(rules) - 1):
        state = state_behind(rules, row)
        if all((state, first) in unlike for first in firsts):
            firsts.append(state)
    number = {state: next(at for at, first in enumerate(firsts) if (state, first) not in unlike)
              for state in {state_behind(rules, row + [name]) for row in rows(rules[0], len(rules) - 1) for name in rules[0]}}
    return [{name: (number[rules[first][name][0]], rules[first][name][1]) for name in sorted(rules[first])}
            for first in firsts]


def last_outputs(machines, row):
    return [said(rules, row)[-1] for rules in machines]


def wanted_output(start, told):
    goals = {goal for goal in told if goal != start}
    return None if len(goals) > 1 else max(goals, default=start)


def settled_output(start, told, order):
    return next((told[index] for index in order if told[index] != start), start)


def product_levels(machines, start):
    """Lists of tuples (states, outputs, states behind) of machines led side by side: by one input, by two, and so on."""
    level, seen = {start}, {start}
    while level:
        steps = [(states, [rules[state][name] for rules, state in zip(machines, states)]) for states in sorted(level) for name in machines[0][0]]
        yield [(states, [output for _, output in found], tuple(later for later, _ in found)) for states, found in steps]
        level = {tuple(later for later, _ in found) for _, found in steps} - seen
        seen |= level


def shortest(machines, is_goal, row=()):
    """The length of the shortest row behind a row whose last outputs are a goal, or None."""
    start = tuple(state_behind(rules, row) for rules in machines)
    return next((many + 1 for many, steps in enumerate(product_levels(machines, start))
                 if any(is_goal(outputs) for _, outputs, _ in steps)), None)


def says_as(machines, rules, say):
    """Whether rules say at each row what say makes of the outputs of machines."""
    return shortest(machines + [rules], lambda outputs: say(outputs[:-1]) != outputs[-1]) is None
