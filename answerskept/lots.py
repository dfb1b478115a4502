"""Lots of indexes."""

from itertools import combinations


def least_lots(many, does):
    """Return the ascending list of the least lots of so many indexes of which does tells True."""
    found = []
    for size in range(many + 1):
        for lot in combinations(range(many), size):
            if not any([_is_part(less, lot) for less in found]) and does(lot):
                found.append(lot)
    return sorted(found)


def _is_part(less, lot):
    return all([index in lot for index in less])
