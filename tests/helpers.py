"""What the tests share: short notations, any values, and twisted ones."""

import copy
import random
import re

from answerskept import errors
from answerskept.books import Book
from answerskept.desk import Desk
from answerskept.machines import Machine
from answerskept.programs import Program

ERRORS = {
    "Wrong": ("place",), "TooMany": ("limit",), "Missing": ("name",), "Uneven": ("name",),
    "Round": ("name",), "Loose": ("function", "name"), "NoFunction": ("name",), "NoPlace": ("place",),
    "Overlap": ("one", "other"), "Quarrel": ("one", "other"), "Clash": ("one", "other"), "Unlike": (),
    "QuarrelRow": ("row",), "NoText": (), "NoDeed": (), "Taken": ("name",), "NoEditor": ("name",),
    "NoNumber": ("number",), "Broken": ("number", "world"), "Nothing": (), "Stopped": ("index",), "NoCommand": (),
}


def term(text):
    """The term that a text like f(a,g(b)) writes."""
    tokens = re.findall(r"[A-Za-z]+|[(),]", text)
    found = _read_term(tokens)
    assert not tokens, text
    return found


def _read_term(tokens):
    parts = [tokens.pop(0)]
    if tokens and tokens[0] == "(":
        while tokens.pop(0) != ")":
            parts.append(_read_term(tokens))
    return tuple(parts)


def terms(text):
    """The list of the terms that a text with blanks between them writes."""
    return [term(word) for word in text.split()]


def code(text):
    """The long code, guard, fact or paper that a text writes, as in: if a b go pick (a,b) tell c."""
    words = text.split()
    found = _read_code(words)
    assert not words, text
    return found


def _read_code(words):
    word = words.pop(0)
    if word == "if":
        one, other = term(words.pop(0)), term(words.pop(0))
        yes = _read_code(words)
        return ("if", one, other, yes, _read_code(words))
    if word == "tell":
        return ("tell", term(words.pop(0)))
    if word in ("alike", "unlike"):
        return (word, term(words.pop(0)), term(words.pop(0)))
    if word == "with":
        name, inner = words.pop(0), _read_code(words)
        return ("with", name, inner, _read_code(words))
    if word == "go":
        name, handed = words.pop(0), words.pop(0)
        return ("go", name, () if handed == "()" else term("x" + handed)[1:])
    return (word,)


def claim(text):
    """The claim that a text writes, as in: if a b yes no c."""
    words = text.split()
    guard = _read_code(words)
    return (guard, term(*words))


def machine_rules(text):
    """The rules that a text writes, as in: u1x v0y / u0x v0x."""
    rows = [re.findall("([a-z])([0-9]+)([a-z]+)", part) for part in text.split("/")]
    return [{name: (int(later), output) for name, later, output in row} for row in rows]


def machine(text):
    """The Machine that a text writes by its rules."""
    rules = machine_rules(text)
    return Machine(list(rules[0]), rules)


def functions(text):
    """The functions that lines write, as in: pick a,b tell a."""
    found = {}
    for line in text.strip().split("\n"):
        name, givens, rest = line.strip().split(" ", 2)
        found[name] = (givens.split(","), code(rest))
    return found


def program(text):
    """The Program that lines write, one for each function."""
    return Program(functions(text))


def functions_of(made):
    """The functions of a Program, as it may be made of them."""
    return {name: (made.givens(name), made.code(name)) for name in made.functions()}


def facts(text):
    """The list of the facts that a text writes: a=b f(a)/c."""
    found = []
    for word in text.split():
        one, sign, other = re.fullmatch(r"([^=/]+)([=/])([^=/]+)", word).groups()
        found.append(("alike" if sign == "=" else "unlike", term(one), term(other)))
    return found


def chain(names, end="a", work="f"):
    """A term with as many names, one within the other."""
    found = (end,)
    for _ in range(names - 1):
        found = (work, found)
    return found


def any_values():
    """Values of all kinds that are none of what any form of the package tells."""
    made = [getattr(errors, name)(*(1 for _ in fields)) for name, fields in ERRORS.items()]
    made += [errors.KeptError("x"), Program({"a": (["a"], ("tell", ("a",)))}), program("p a,b go q (a)\nq a tell a"), machine("a0a"),
             Book(program("p a tell a")), Desk(program("p a tell a"))]
    deep_list, deep_tuple, deep_dict = [], (), {}
    for _ in range(29):
        deep_list, deep_tuple, deep_dict = [deep_list], (deep_tuple,), {"a": deep_dict}
    numbers = [-1, 0, 1, 7, 10 ** 39, -(10 ** 39)]
    strings = ["", " ", "A", "a b", "~", "\n", "a\n", "abcdefghi", "a1", "f(a)", "x" * 3000]
    wide = [list(range(3000)), tuple(["a"] * 3000), {number: number for number in range(1400)}]
    mixed = [[], [()], ((),), [[]], (None,), (True,), (0,), ("", ""), ("a", "b"), ("a", 1), ["a"], [("a",)]]
    keyed = [{"a": 1}, {None: None}, {(): 0}, {0: ("a",)}, {("a",): None}]
    words = [("if",), ("tell",), ("go",), ("with",), ("alike",), ("unlike",), ("met", ()), ("met", "met")]
    return ([None, True, False] + numbers + strings + wide + mixed + keyed + words + made
            + [part for each in (made[0], made[-1]) for part in ([each], (each,), ("a", each), {"a": each})]
            + [{made[0]: 1}, {("a", made[0]): 0}]
            + [deep_list, deep_tuple, deep_dict])


def strangers():
    """A few values to put in the place of a part."""
    return [None, True, False, 0, 1, "a", "if", "zz", (), [], {}, ("a",), ["a"], ("a", ("b",)), errors.NoText(),
            Program({"a": (["a"], ("tell", ("a",)))}), machine("a0a")]


def twisted(thing):
    """All values with one part of thing left out, added or exchanged, at any depth."""
    for stranger in strangers():
        yield stranger
    if isinstance(thing, (tuple, list)):
        yield list(thing) if isinstance(thing, tuple) else tuple(thing)
        for at in range(len(thing)):
            yield thing[:at] + thing[at + 1:]
            yield thing[:at] + thing[at:at + 1] * 2 + thing[at + 1:]
            yield thing[:at] + thing[at + 1:at + 2] + thing[at:at + 1] + thing[at + 2:]
            for part in twisted(thing[at]):
                yield thing[:at] + type(thing)([part]) + thing[at + 1:]
        for stranger in strangers():
            yield thing + type(thing)([stranger])
            yield type(thing)([stranger]) + thing
    if isinstance(thing, dict):
        yield from _twisted_dicts(thing)


def _twisted_dicts(thing):
    for key in thing:
        rest = {other: thing[other] for other in thing if other != key}
        yield rest
        yield list(thing.items())
        for part in twisted(thing[key]):
            yield {**rest, key: part}
        for part in twisted(key):
            if is_hashable(part):
                yield {**rest, part: thing[key]}
    for stranger in strangers():
        if is_hashable(stranger):
            yield {**thing, stranger: 1}
        yield {**thing, ("a", 1): stranger}


def is_hashable(thing):
    try:
        hash(thing)
    except TypeError:
        return False
    return True


def seen(thing):
    """A text that tells values apart, also True from 1, and the order of keys; Programs by their functions."""
    if isinstance(thing, Program):
        return "Program(" + repr(functions_of(thing)) + ")"
    if isinstance(thing, Book):
        sheets = [(name, thing.sheet(name)) for name in thing.editors()]
        return "Book(" + seen([thing.base, thing.program, sheets, thing.claims(), thing.log()]) + ")"
    if isinstance(thing, Desk):
        return "Desk(" + seen(thing.book()) + ")"
    if isinstance(thing, Machine):
        return "Machine(" + repr(thing.rules()) + ")"
    if isinstance(thing, dict):
        return "{" + ", ".join(seen(key) + ": " + seen(thing[key]) for key in thing) + "}"
    if type(thing) in (list, tuple):
        return type(thing).__name__ + "(" + ", ".join(seen(part) for part in thing) + ")"
    return repr(thing)


def spoil(thing):
    """Change each list and dict within thing."""
    if isinstance(thing, (tuple, list)):
        for part in thing:
            spoil(part)
    if isinstance(thing, dict):
        for part in list(thing.values()):
            spoil(part)
        thing.clear()
    if isinstance(thing, list):
        thing.append("spoiled")
        thing.reverse()


def ask(case, function, *arguments):
    """What a function tells, having seen that it changes nothing and tells the same again."""
    before = seen(arguments)
    first = function(*arguments)
    told = copy.deepcopy(first)
    case.assertEqual(seen(arguments), before, "arguments were changed")
    spoil(first)
    case.assertEqual(seen(arguments), before, "what was told holds a part of the arguments")
    again = function(*arguments)
    case.assertEqual(seen(again), seen(told), "the same call tells something else")
    return again


def random_terms(chance, many, names="abc", works="fg", parts=(1, 2)):
    """A closed list of about so many terms, by a random.Random."""
    pool = [(chance.choice(names),)]
    while len(pool) < many:
        if chance.random() < 0.45:
            new = (chance.choice(names),)
        else:
            new = (chance.choice(works),) + tuple(chance.choice(pool) for _ in range(chance.choice(parts)))
        if new not in pool:
            pool.append(new)
        elif chance.random() < 0.2:
            break
    return sorted(pool)


def random_code(chance, pool, depth, ends=None):
    """A code over a pool of terms with at most so many ifs on a way; guards have ends."""
    if depth == 0 or chance.random() < 0.15:
        return chance.choice(ends) if ends else ("tell", chance.choice(pool))
    one, other = chance.choice(pool), chance.choice(pool)
    yes = random_code(chance, pool, depth - 1, ends)
    return ("if", one, other, yes, random_code(chance, pool, depth - 1, ends))


def random_long(chance, pool, gos, depth, scope):
    """A long code of at most so many levels: pool gives terms over a scope, gos are (function, number of givens)."""
    kind = chance.choice(("tell", "if", "if", "with", "go")) if depth else chance.choice(("tell", "go"))
    if kind == "go" and gos:
        name, many = chance.choice(gos)
        return ("go", name, tuple(pool(scope) for _ in range(many)))
    if kind == "if":
        yes, no = (random_long(chance, pool, gos, depth - 1, scope) for _ in range(2))
        return ("if", pool(scope), pool(scope), yes, no)
    if kind == "with":
        name = chance.choice("abxyz")
        inner = random_long(chance, pool, gos, depth - 1, scope)
        return ("with", name, inner, random_long(chance, pool, gos, depth - 1, scope + [name]))
    return ("tell", pool(scope))


def random_functions(chance, many=4, depth=3, givens=5):
    """Functions p, q, r, s as Program takes them, with gos to those further on."""
    def pool(scope):
        if chance.random() < 0.75:
            return (chance.choice(scope),)
        return (chance.choice("fga"),) + tuple((chance.choice(scope),) for _ in range(chance.randint(1, 2)))

    found, gos = {}, []
    for name in "srqp"[4 - many:]:
        names = chance.sample("abcde", chance.randint(1, givens))
        found[name] = (names, random_long(chance, pool, gos, depth, names))
        gos.append((name, len(names)))
    return found


def random_afters(chance, pool, many, depth=2):
    """A base and afters: of all kinds, with equal ones, idle ones, and ones that change it here and there."""
    base = random_code(chance, pool, depth)
    afters = []
    while len(afters) < many:
        one, other = chance.choice(pool), chance.choice(pool)
        new = random_code(chance, pool, depth)
        kinds = [new, new, ("tell", one), ("if", one, other, new, base), ("if", one, other, base, new), base, ("if", one, other, base, base),
                 ("if", one, other, new, base)] + afters[:1] + [("if", one, other, after, after) for after in afters[:1]]
        kinds += [("if", one, other, after, base) for after in afters]
        afters.append(chance.choice(kinds))
    return base, afters


def random_rows(seeds, most=5, depth=2):
    """Rows (chance, pool, base, afters) over a few terms, that a plain oracle can judge."""
    for chance, pool in random_pools(seeds, most):
        yield (chance, pool) + random_afters(chance, pool, chance.randint(1, 5), depth)


def random_versions(chance, pool, many, depth=2):
    """Versions of which some turn little, some nothing, some back to what stood ahead."""
    found = [random_code(chance, pool, depth)]
    while len(found) < many:
        one, other, new, last = chance.choice(pool), chance.choice(pool), random_code(chance, pool, depth), found[-1]
        found.append(chance.choice([new, ("if", one, other, new, last), ("if", one, other, last, new), last, ("tell", one),
                                    ("if", one, other, last, last), chance.choice(found), ("if", one, other, chance.choice(found), last)]))
    return found


def random_pools(seeds, most=5):
    """Tuples (chance, closed list of a few terms), one for each of some of so many seeds."""
    for seed in range(seeds):
        chance = chances(seed)
        pool = sorted(random_terms(chance, 4))
        if all(part in pool for each in pool for part in each[1:]) and len(pool) <= most:
            yield chance, pool


def random_claims(chance, pool, many, depth=2):
    """Claims over a pool of terms."""
    ends = [("yes",), ("no",)]
    return [(random_code(chance, pool, depth, ends), chance.choice(pool)) for _ in range(many)]


def of_ways(each):
    """The claims that a code keeps by its ways: that on each of them its end is told."""
    if each[0] != "if":
        return [(("yes",), each[1])]
    _, one, other, yes, no = each
    return ([(("if", one, other, guard, ("no",)), end) for guard, end in of_ways(yes)]
            + [(("if", one, other, ("no",), guard), end) for guard, end in of_ways(no)])


def random_rules(chance, states, inputs="uv", outputs="xy"):
    """The rules of a machine with so many states."""
    return [{name: (chance.randrange(states), chance.choice(outputs)) for name in inputs} for _ in range(states)]


def random_facts(chance, pool, many):
    return [(chance.choice(("alike", "alike", "unlike")), chance.choice(pool), chance.choice(pool))
            for _ in range(many)]


def chances(seed):
    return random.Random(seed)
