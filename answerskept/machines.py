"""Machines, which say a name at each input, and whether they say the same along all rows [100]."""

from answerskept.errors import Unlike, Wrong
from answerskept.folding import deputies
from answerskept.forms import are_names, is_integer, is_name
from answerskept.rows import joint, row_to, step_of


class Machine:
    """States, each with what is said, and the state behind, at each input; it never changes."""

    def __init__(self, inputs, rules):
        if not are_names(inputs):
            raise Wrong(0)
        if not _are_rules(inputs, rules):
            raise Wrong(1)
        names = sorted(inputs)
        self._rules = [{name: rule[name] for name in names} for rule in rules]

    def inputs(self):
        """Return the ascending list of the inputs."""
        return list(self._rules[0])

    def rules(self):
        """Return the list of the dicts of the states."""
        return [dict(rule) for rule in self._rules]

    def said(self, row):
        """Return the list of the outputs along a row of inputs."""
        found = []
        state = 0
        for name in row:
            state, output = self._rules[state][name]
            found.append(output)
        return found

    def state_behind(self, row):
        """Return the state behind a row of inputs."""
        state = 0
        for name in row:
            state = self._rules[state][name][0]
        return state

    def __len__(self):
        return len(self._rules)

    def __eq__(self, other):
        # Equal rules are from the same inputs.
        return isinstance(other, Machine) and self._rules == other._rules


def folded(machine):
    """Return the Machine with the fewest states that says the same, its states numbered as they are met."""
    rules = machine.rules()
    firsts = deputies(rules)
    lesser = [
        {name: (firsts[later], output) for name, (later, output) in rule.items()} for rule in rules]
    return Machine(machine.inputs(), joint([lesser], (0,), _first_of)[1])


def say_same(one, other):
    """Whether two machines say the same along all rows."""
    return parting_row(one, other) is None


def parting_row(one, other):
    """Return a shortest row along which the last outputs of two machines are unlike, or None."""
    refuse_unlike([one, other])
    return row_to([one.rules(), other.rules()], (0, 0), _are_unlike)


def pairs(one, other):
    """Return the least closed list of the states of two machines, ascending, or None."""
    if not say_same(one, other):
        return None
    return sorted(joint([one.rules(), other.rules()], (0, 0), _first_of)[0])


def are_pairs(one, other, thing):
    """Whether thing, any value, is a closed list of the states of two machines."""
    refuse_unlike([one, other])
    if not isinstance(thing, list) or not all([_is_pair(one, other, pair) for pair in thing]):
        return False
    found = {pair: True for pair in thing}
    if len(found) < len(thing) or (0, 0) not in found:
        return False
    return all([_leads_within(one, other, pair, found) for pair in thing])


def refuse_unlike(machines):
    """Raise Unlike if some machines have unlike inputs."""
    if any([machine.inputs() != machines[0].inputs() for machine in machines]):
        raise Unlike()


def _are_rules(inputs, thing):
    if not isinstance(thing, (list, tuple)) or not thing:
        return False
    return all([_is_rule(inputs, rule, len(thing)) for rule in thing])


def _is_rule(inputs, thing, many):
    """Whether thing is a dict from just the inputs to tuples of one of so many states and a name."""
    if not isinstance(thing, dict) or len(thing) != len(inputs):
        return False
    return all([name in thing and _is_step(thing[name], many) for name in inputs])


def _is_step(thing, many):
    return isinstance(thing, tuple) and len(thing) == 2 and _is_state(thing[0], many) and is_name(thing[1])


def _is_state(thing, many):
    return is_integer(thing) and 0 <= thing < many


def _is_pair(one, other, thing):
    if not isinstance(thing, tuple) or len(thing) != 2:
        return False
    return _is_state(thing[0], len(one)) and _is_state(thing[1], len(other))


def _leads_within(one, other, pair, found):
    """Whether a pair says the same at each input, and has a pair that was found behind each."""
    for name in one.inputs():
        later, outputs = step_of([one.rules(), other.rules()], pair, name)
        if _are_unlike(outputs) or later not in found:
            return False
    return True


def _are_unlike(outputs):
    return outputs[0] != outputs[1]


def _first_of(outputs):
    return outputs[0]
