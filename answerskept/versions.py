"""Versions, one behind another, and what hangs on the steps between them [82]."""

from answerskept.carrying import carried
from answerskept.changes import changes_in, is_idle
from answerskept.codes import answer
from answerskept.lots import least_lots
from answerskept.sameness import do_same


def turns(versions, world):
    """Return the ascending list of the steps that change the answer in a world."""
    return [step for step in _steps(versions) if changes_in(versions[step - 1], versions[step], world)]


def idle_steps(versions):
    """Return the ascending list of the steps that change no answer in any world."""
    return [step for step in _steps(versions) if is_idle(versions[step - 1], versions[step])]


def without(versions, lot):
    """Return a code that answers as what comes of the first version by all steps but those of a lot."""
    return _behind(versions, [step for step in _steps(versions) if step not in lot])


def hangs(versions, world):
    """Return the ascending list of the least lots of steps without which the last answer is not told."""
    told = [answer(version, world) for version in versions]
    lots = least_lots(len(versions) - 1, lambda lot: _told_without(told, lot) != told[-1])
    return [tuple([index + 1 for index in lot]) for lot in lots]


def can_turn(versions, step):
    """Whether the same comes of the first version if a step is carried behind the next one."""
    steps = _steps(versions)
    turned = steps[:step - 1] + [step + 1, step] + steps[step + 1:]
    return do_same(_behind(versions, turned), versions[-1])


def _steps(versions):
    return list(range(1, len(versions)))


def _behind(versions, steps):
    """What comes of the first version by steps that are carried to it, one behind another."""
    found = versions[0]
    for step in steps:
        found = carried(versions[step - 1], versions[step], found)
    return found


def _told_without(told, lot):
    """What comes of the first answer without the steps that a lot of indexes, counted from 0, tells."""
    found = told[0]
    for index, much in enumerate(told[1:]):
        if index not in lot and found == told[index]:
            found = much
    return found
