"""Machines that editors made out of one, judged by their outputs at all rows of inputs [101]."""

from answerskept.errors import QuarrelRow
from answerskept.machines import Machine, folded, refuse_unlike
from answerskept.rows import joint, row_to
from answerskept.wanting import first_of, wanted_of


def wanted_at(base, afters, row):
    """Return the wanted output at a row, or None if the afters quarrel there."""
    refuse_unlike([base] + afters)
    # Nothing is said at the empty row, so nothing is wanted there.
    return _wanted([machine.said(row)[-1] for machine in [base] + afters]) if row else None


def quarrel_row(base, afters):
    """Return a shortest row at which the afters quarrel, or None."""
    return _quarrel_behind(base, afters, [])


def losing_row(base, afters, machine):
    """Return a shortest row at which a machine loses, or None."""
    machines = [base] + afters + [machine]
    refuse_unlike(machines)
    return row_to(_rules_of(machines), (0,) * len(machines), _is_loss)


def kept_machine(base, afters):
    """Return the folded Machine that keeps the afters."""
    row = quarrel_row(base, afters)
    if row is not None:
        raise QuarrelRow(row)
    return _folded_joint(base, afters, _wanted)


def settled_machine(base, afters, order):
    """Return the folded Machine that says what the first after in the order says that changes the base."""
    refuse_unlike([base] + afters)
    return _folded_joint(base, afters, lambda outputs: first_of(outputs[0], outputs[1:], order))


def calm(base, afters, row):
    """Whether the afters quarrel at no row that begins with a row and is longer."""
    return _quarrel_behind(base, afters, row) is None


def _rules_of(machines):
    return [machine.rules() for machine in machines]


def _quarrel_behind(base, afters, row):
    """A shortest row of more inputs at whose end the afters quarrel, behind a row, or None."""
    machines = [base] + afters
    refuse_unlike(machines)
    start = tuple([machine.state_behind(row) for machine in machines])
    return row_to(_rules_of(machines), start, _is_quarrel)


def _folded_joint(base, afters, say):
    machines = [base] + afters
    _, rules = joint(_rules_of(machines), (0,) * len(machines), say)
    return folded(Machine(base.inputs(), rules))


def _wanted(outputs):
    """What is wanted where the base and the afters, in order, have some outputs, or None."""
    return wanted_of(outputs[0], outputs[1:])


def _is_quarrel(outputs):
    return _wanted(outputs) is None


def _is_loss(outputs):
    """Whether the last one of some outputs is not what the others want."""
    return _wanted(outputs[:-1]) not in (None, outputs[-1])
