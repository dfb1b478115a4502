"""What facts tell of the terms of a closed list, fact by fact."""

from answerskept.closing import grouped, joined, numbered, works_of
from answerskept.shapes import world_of
from answerskept.terms import mark


class Known:
    """Facts over a closed list: which of its terms are alike by them, and which are unlike."""

    def __init__(self, terms, numbers, works, lots, apart):
        self.terms = terms
        self.numbers = numbers
        self.works = works
        self.lots = lots
        self.apart = apart
        self.can_be = not _meet(lots, apart)

    def also(self, fact):
        """Return what is known with one more fact."""
        pair = self.pair_of(fact[1], fact[2])
        if fact[0] == "alike":
            lots = joined(self.works, self.lots, [pair])
            return Known(self.terms, self.numbers, self.works, lots, self.apart)
        return Known(self.terms, self.numbers, self.works, self.lots, self.apart + [pair])

    def tells(self, one, other):
        """True if two terms must be alike, False if they must be unlike, None if neither."""
        pair = self.pair_of(one, other)
        if not self.can_be or self.lots[pair[0]] == self.lots[pair[1]]:
            return True
        if _meet(joined(self.works, self.lots, [pair]), self.apart):
            return False
        return None

    def gives(self, fact):
        """Whether a fact follows."""
        return not self.can_be or self.tells(fact[1], fact[2]) == (fact[0] == "alike")

    def led(self, code):
        """Return the end, or the first if that is not settled, to which a code or a guard comes."""
        here = code
        while here[0] == "if":
            told = self.tells(here[1], here[2])
            if told is None:
                return here
            here = here[3] if told else here[4]
        return here

    def some_world(self):
        """Return a world in which the facts hold, and no terms are alike that need not be."""
        return world_of(grouped(self.terms, self.lots))

    def pair_of(self, one, other):
        """Return the numbers of two terms."""
        return (self.numbers[mark(one)], self.numbers[mark(other)])


def known_of(terms, facts):
    """Return what facts tell of the terms of a closed list that has theirs."""
    known = Known(terms, numbered(terms), works_of(terms), list(range(len(terms))), [])
    for fact in facts:
        known = known.also(fact)
    return known


def _meet(lots, apart):
    return any([lots[one] == lots[other] for one, other in apart])
