"""Inputs at the bounds of [4], and tests that see whether these are answered within a moment."""

import time
import unittest

import oracle
from helpers import ask, terms

# Far more than any of these calls needs, and far less than trying all worlds over numbers would.
MOMENT = 5

SEVENS = [terms("a b c d e g h"), oracle.closed(terms("f(f(a)) f(b) g(a,b) g(b,a)")),
          oracle.closed(terms("f(f(f(f(f(f(a))))))")), oracle.closed(terms("f(a) f(b) f(c) h"))]
SIXES = [terms("a b c d e g"), oracle.closed(terms("f(a) f(b) g(a,b) g(b,a)")), oracle.closed(terms("f(f(f(a))) f(b)"))]


def large_code(chance, pool, many=16, most=5, ends=None):
    """A code with so many ways and at most so many ifs on each of them; guards have ends."""
    ends = ends or [("tell", term) for term in pool]
    code = chance.choice(ends)
    while len(oracle.ways(code)) < many:
        code = _grown(chance, pool, code, most, ends)
    return code


def _grown(chance, pool, code, most, ends):
    if code[0] != "if":
        if most == 0:
            return code
        one, other = chance.sample(pool, 2)
        return ("if", one, other, chance.choice(ends), chance.choice(ends))
    if chance.random() < 0.5:
        return code[:3] + (_grown(chance, pool, code[3], most - 1, ends), code[4])
    return code[:4] + (_grown(chance, pool, code[4], most - 1, ends),)


def thirty_keys(chance, pool):
    """A world with thirty keys, some of which the terms ask for."""
    world = {}
    while len(world) < 30:
        each = chance.choice(pool)
        key = (each[0],) + tuple(chance.randint(0, 3) for _ in each[1:])
        world[key if chance.random() < 0.7 else ("q", len(world))] = chance.randint(0, 3)
    return world


class QuickTest(unittest.TestCase):
    """Tests that see whether each call is answered within a moment."""

    def quick(self, function, *arguments):
        begin = time.perf_counter()
        told = ask(self, function, *arguments)
        self.assertLess(time.perf_counter() - begin, MOMENT, function.__name__)
        return told
