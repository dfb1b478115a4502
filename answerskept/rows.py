"""Machines that are led side by side along rows of inputs.

A machine is given by its rules alone, and several of them by a list of these; they
are in a tuple of states, one for each.
"""


def step_of(machines, states, name):
    """Return the tuple of the states behind an input, and the list of the outputs at it."""
    found = [rules[state][name] for rules, state in zip(machines, states)]
    return tuple([later for later, _ in found]), [output for _, output in found]


def row_to(machines, start, is_goal):
    """Return a shortest row, not empty, from the start on, whose last outputs are a goal, or None."""
    came = {start: None}
    level = [start]
    while level:
        behind = []
        for states in level:
            for name in machines[0][0]:
                later, outputs = step_of(machines, states, name)
                if is_goal(outputs):
                    return _row_behind(came, states) + [name]
                if later not in came:
                    came[later] = (states, name)
                    behind.append(later)
        level = behind
    return None


def joint(machines, start, say):
    """Return the list of the states that are met, and the rules of the machine whose states these are.

    It says what say makes of the list of the outputs. States are numbered as they are met
    from the start on, state by state, by the inputs in order.
    """
    numbers = {start: 0}
    met = [start]
    rules = []
    while len(rules) < len(met):
        rule = {}
        states = met[len(rules)]
        for name in machines[0][0]:
            later, outputs = step_of(machines, states, name)
            if later not in numbers:
                numbers[later] = len(met)
                met.append(later)
            rule[name] = (numbers[later], say(outputs))
        rules.append(rule)
    return met, rules


def _row_behind(came, states):
    """The row by which states were come to first."""
    row = []
    while came[states] is not None:
        states, name = came[states]
        row.append(name)
    return row[::-1]
