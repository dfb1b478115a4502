"""Afters, orders and sheets at the bounds of [4], each answered within a moment, and rightly."""

import itertools
import unittest

import oracle
from bounds import SEVENS, QuickTest, large_code, thirty_keys
from helpers import chances, functions_of, terms

from answerskept.errors import Clash, Quarrel
from answerskept.keeping import (is_losing_world, is_quarrel_world, kept, keeps, losing_world, quarrel_world, wanted)
from answerskept.many import kept_lots, left_out, quarrels
from answerskept.merging import clashes, is_lost_world, losing_lots, lost_world, made, merged, verdict
from answerskept.peace import kept_under, peace
from answerskept.programs import Program
from answerskept.settling import order_lots, orders_for, settled, shows

ENDS = [("yes",), ("no",)]
FIVE = terms("a b c d e")


def rows_at_the_bounds():
    """A base and five afters of sixteen ways, over seven terms; such that quarrel, and such that can be kept."""
    for seed in range(8):
        chance = chances(seed)
        pool = SEVENS[seed % len(SEVENS)]
        base = large_code(chance, pool)
        if seed % 2:
            yield chance, pool, base, [large_code(chance, pool) for _ in range(5)]
        else:
            new = large_code(chance, pool, 4, 3)
            small = [large_code(chance, pool, 4, 3) for _ in range(5)]
            base = small[0]
            yield chance, pool, base, [mixed(base, new, each) for each in small]


def mixed(base, new, top):
    """A code of sixteen ways that asks as top does, and then goes on as base or as new."""
    ends = iter([new, base, base, new])

    def ended(code):
        return code[:3] + (ended(code[3]), ended(code[4])) if code[0] == "if" else next(ends)

    return ended(top)


class KeepingBoundsTest(QuickTest):
    def told_of(self, base, afters, *things):
        """Rows (world, answers of the afters, wanted answer) for all shapes of all asked terms."""
        for world in oracle.worlds_of(base, *afters, *things):
            yield world, [oracle.answer(after, world) for after in afters], oracle.wanted(base, afters, world)

    def test_keeping(self):
        found = set()
        for chance, pool, base, afters in rows_at_the_bounds():
            rows = list(self.told_of(base, afters))
            peaceful = all(told is not None for _, _, told in rows)
            found.add(peaceful)
            world = self.quick(quarrel_world, base, afters)
            self.assertIs(world is None, peaceful)
            self.assertIs(self.quick(is_quarrel_world, base, afters, world), not peaceful)
            pairs = self.quick(quarrels, base, afters)
            self.assertEqual(pairs, oracle.odd_pairs(base, afters))
            if peaceful:
                code = self.quick(kept, base, afters)
                for each, _, told in rows:
                    self.assertEqual(oracle.answer(code, each), told)
                self.assertIs(self.quick(keeps, base, afters, code), True)
            else:
                with self.assertRaises(Quarrel) as held:
                    kept(base, afters)
                self.assertEqual((held.exception.one, held.exception.other), pairs[0])
            loser = large_code(chance, pool)
            world = self.quick(losing_world, base, afters, loser)
            lost = [each for each in oracle.worlds_of(base, loser, *afters) if oracle.loses(base, afters, loser, each)]
            self.assertIs(world is not None, bool(lost))
            self.assertIs(self.quick(is_losing_world, base, afters, loser, world), bool(lost))
            self.assertIs(self.quick(keeps, base, afters, loser), peaceful and not lost)
            world = thirty_keys(chance, pool)
            self.assertEqual(self.quick(wanted, base, afters, world), oracle.wanted(base, afters, world))
        self.assertEqual(found, {True, False})

    def test_peace_and_lots(self):
        for chance, pool, base, afters in rows_at_the_bounds():
            guard = self.quick(peace, base, afters)
            code = self.quick(kept_under, base, afters, guard)
            for world, _, told in self.told_of(base, afters):
                self.assertIs(oracle.guard_holds(guard, world), told is not None)
                self.assertEqual(oracle.answer(code, world), oracle.answer(base, world) if told is None else told)
            other = large_code(chance, pool, ends=ENDS)
            pairs = oracle.odd_pairs(base, afters, other)
            try:
                code = self.quick(kept_under, base, afters, other)
                self.assertEqual(pairs, [])
            except Quarrel as error:
                self.assertEqual((error.one, error.other), pairs[0])
            pairs = oracle.odd_pairs(base, afters)
            fits = [lot for size in range(6) for lot in itertools.combinations(range(5), size)
                    if not any(one in lot and two in lot for one, two in pairs)]
            right = sorted(lot for lot in fits if not any({*lot} < {*more} for more in fits))
            self.assertEqual(self.quick(kept_lots, base, afters), right)
            self.assertEqual(self.quick(left_out, base, afters), sorted(
                tuple(at for at in range(5) if at not in lot) for lot in right))

    def test_all_orders_of_five(self):
        for chance, _, base, afters in rows_at_the_bounds():
            rows = list(self.told_of(base, afters))
            starts = [oracle.answer(base, world) for world, _, _ in rows]
            lots = {}
            for order in oracle.orders(afters):
                told = tuple(next((answers[at] for at in order if answers[at] != start), start)
                             for start, (_, answers, _) in zip(starts, rows))
                lots.setdefault(told, []).append(order)
            self.assertEqual(self.quick(order_lots, base, afters), sorted(lots.values()))
            order = tuple(chance.sample(range(5), 5))
            code = self.quick(settled, base, afters, order)
            guards = [self.quick(shows, base, afters, order, index) for index in range(5)]
            for start, (world, answers, _) in zip(starts, rows):
                first = next((at for at in order if answers[at] != start), None)
                self.assertEqual(oracle.answer(code, world), start if first is None else answers[first])
                self.assertEqual([oracle.guard_holds(guard, world) for guard in guards], [at == first for at in range(5)])
            some = [chance.choice(rows)[0] for _ in range(3)]
            wishes = [(world, oracle.settled_answer(base, afters, order, world)) for world in some]
            told = self.quick(orders_for, base, afters, wishes)
            self.assertEqual(told, [each for each in oracle.orders(afters) if all(
                oracle.settled_answer(base, afters, each, world) == much for world, much in wishes)])


class SheetBoundsTest(QuickTest):
    def test_sheets_of_four_editors(self):
        """Whole codes of sixteen ways over seven terms, six edits by four editors."""
        found = {}
        for seed in range(8):
            chance = chances(seed)
            pool = FIVE + terms("f(a) g(b,c)")
            names = [each[0] for each in FIVE]
            rows = {
                "p": (names, ("with", "x", ("go", "q", tuple(FIVE)), ("go", "r", tuple(FIVE)))), "q": (names, large_code(chance, pool, 4)),
                "r": (names, ("if", ("a",), ("b",), ("go", "s", tuple(FIVE)), ("go", "s", tuple(FIVE)))), "s": (names, large_code(chance, pool, 2))}
            self.assertEqual(len(oracle.ways(oracle.whole(rows, "p"))), 16)
            sheets = [[], [], [], []]
            while sum(map(len, sheets)) < 6:
                name = chance.choice("qs")
                places = [place for place, part in oracle.places_of(rows[name][1]).items() if oracle.is_term(part)]
                sheet = sheets[chance.randrange(4)]
                edit = (name, chance.choice(places), chance.choice(pool))
                others = sheet if seed % 2 else [other for each in sheets for other in each]
                if not any(oracle.begins(edit, other) for other in others):
                    sheet.append(edit)
            base = Program(rows)
            self.assertEqual([functions_of(each) for each in self.quick(made, base, sheets)],
                             [functions_of(Program(oracle.edited(rows, sheet))) for sheet in sheets])
            self.assertEqual(self.quick(clashes, sheets), oracle.clashes(sheets))
            if oracle.clashes(sheets):
                with self.assertRaises(Clash):
                    merged(base, sheets)
            else:
                self.assertEqual(self.quick(merged, base, sheets), Program(oracle.merged(rows, sheets)))
            told = self.quick(verdict, base, sheets, "p")
            self.assertEqual(told, oracle.verdict(rows, sheets, "p"))
            world = self.quick(lost_world, base, sheets, "p")
            self.assertIs(world is not None, told == ("clean", "lost"))
            self.assertIs(self.quick(is_lost_world, base, sheets, "p", world), world is not None)
            self.assertIs(type(self.quick(is_lost_world, base, sheets, "p", thirty_keys(chance, pool))), bool)
            self.assertEqual(self.quick(losing_lots, base, sheets, "p"), oracle.losing_lots(rows, sheets, "p"))
            found[told] = found.get(told, 0) + 1
        self.assertGreater(len(found), 2, found)


if __name__ == "__main__":
    unittest.main()
