"""Which states of a machine say the same along all rows of inputs."""


def deputies(rules):
    """Return, for each state of a machine, the first state that says the same along all rows."""
    lots, numbers = _first_lots(rules)
    ahead = [_states_ahead(rules, name) for name in rules[0]]
    waiting = list(range(len(lots)))
    while waiting:
        here = list(lots[waiting.pop()])
        for before in ahead:
            _part(lots, numbers, waiting, [state for later in here for state in before[later]])
    firsts = {}
    for state, number in enumerate(numbers):
        firsts.setdefault(number, state)
    return [firsts[number] for number in numbers]


def _first_lots(rules):
    """Lots, as dicts, of the states that say the same at each single input, and each state's lot."""
    lots = []
    numbers = []
    found = {}
    for state, rule in enumerate(rules):
        outputs = tuple([output for _, output in rule.values()])
        if outputs not in found:
            found[outputs] = len(lots)
            lots.append({})
        lots[found[outputs]][state] = True
        numbers.append(found[outputs])
    return lots, numbers


def _states_ahead(rules, name):
    """For each state, the list of the states from which an input leads to it."""
    found = [[] for _ in rules]
    for state, rule in enumerate(rules):
        found[rule[name][0]].append(state)
    return found


def _part(lots, numbers, waiting, states):
    """Part each lot that has some of these states and others too, and let its new part wait."""
    found = {}
    for state in states:
        found.setdefault(numbers[state], []).append(state)
    for number, some in found.items():
        if len(some) < len(lots[number]):
            waiting.append(len(lots))
            _take_out(lots, numbers, number, some)


def _take_out(lots, numbers, number, some):
    """Make a new lot of some of the states of a lot, or of the others of it."""
    rest = lots[number]
    taken = {}
    for state in some:
        del rest[state]
        taken[state] = True
    # The larger part keeps the number, so that no state comes into new lots often.
    if len(taken) > len(rest):
        lots[number] = taken
        taken = rest
    for state in taken:
        numbers[state] = len(lots)
    lots.append(taken)
