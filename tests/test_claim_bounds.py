"""Changes carried, versions, claims and pins at the bounds of [4], each answered within a moment, and rightly."""

import itertools
import unittest

import oracle
from bounds import SEVENS, QuickTest, large_code, thirty_keys
from helpers import chances

from answerskept.carrying import back_again, carried, is_exact, left_world, over
from answerskept.claims import breaking_world, is_breaking_world, keeps_claim, lost_claims, stands
from answerskept.pinning import pins, told_apart
from answerskept.versions import can_turn, hangs, idle_steps, turns, without

ENDS = [("yes",), ("no",)]


def mixed(top, ends):
    """A code of sixteen ways that asks as top does, and then goes on as the codes of ends by turns."""
    rest = itertools.cycle(ends)

    def ended(code):
        return code[:3] + (ended(code[3]), ended(code[4])) if code[0] == "if" else next(rest)

    return ended(top)


def related_codes(chance, pool, many):
    """Codes of sixteen ways over seven terms, each of which does in many worlds as others do."""
    parts = [large_code(chance, pool, 4, 3) for _ in range(4)]
    return [mixed(large_code(chance, pool, 4, 2), chance.choices(parts, k=3)) for _ in range(many)]


def cases(seeds=8):
    for seed in range(seeds):
        chance = chances(seed)
        pool = SEVENS[seed // 2 % len(SEVENS)]
        make = related_codes if seed % 2 else lambda *row: [large_code(*row[:2]) for _ in range(row[2])]
        yield chance, pool, make(chance, pool, 7)


class CarryingBoundsTest(QuickTest):
    def test_carrying(self):
        found = set()
        for chance, _, codes in cases():
            for before, after, base in [chance.sample(codes, 3) for _ in range(3)]:
                made = self.quick(carried, before, after, base)
                for world in oracle.worlds_of(before, after, base):
                    self.assertEqual(oracle.answer(made, world), oracle.carried_answer(before, after, base, world))
                left = any(oracle.is_left(before, after, base, world) for world in oracle.worlds_of(before, after, base))
                exact = oracle.is_exact(before, after, base)
                self.assertIs(self.quick(left_world, before, after, base) is not None, left)
                self.assertIs(self.quick(is_exact, before, after, base), exact)
                self.assertIs(self.quick(back_again, before, after, base), exact)
                found.add(left)
                made = self.quick(over, before, base, after)
                for world in oracle.worlds_of(before, after, base):
                    self.assertEqual(oracle.answer(made, world), oracle.carried_answer(before, after, base, world))
        self.assertIn(True, found)

    def test_six_versions(self):
        for chance, pool, codes in cases():
            versions = [codes[0]] + [chance.choice(codes[:4]) for _ in range(4)] + [codes[5]]
            worlds = oracle.worlds_of(*versions)
            told = [[oracle.answer(version, world) for version in versions] for world in worlds]
            right = [step for step in range(1, 6) if all(row[step] == row[step - 1] for row in told)]
            self.assertEqual(self.quick(idle_steps, versions), right)
            for lot in [lot for size in range(6) for lot in itertools.combinations(range(1, 6), size)]:
                made = self.quick(without, versions, lot)
                for at in chance.choices(range(len(worlds)), k=150):
                    self.assertEqual(oracle.answer(made, worlds[at]), self.led_by(told[at], oracle.steps_but(versions, lot)))
            for step in range(1, 5):
                turned = [each for each in (1, 2, 3, 4, 5) if each != step]
                turned.insert(step, step)
                self.assertIs(self.quick(can_turn, versions, step), all(self.led_by(row, turned) == row[-1] for row in told))
            for world in [chance.choice(worlds), thirty_keys(chance, pool)]:
                self.assertEqual(self.quick(hangs, versions, world), oracle.hangs(versions, world))
                right = [step for step in range(1, 6) if oracle.answer(versions[step], world) != oracle.answer(versions[step - 1], world)]
                self.assertEqual(self.quick(turns, versions, world), right)

    def led_by(self, row, steps):
        """As oracle.led_by, by the answers in one world."""
        told = row[0]
        for step in steps:
            told = row[step] if told == row[step - 1] else told
        return told


class ClaimBoundsTest(QuickTest):
    def claims_of(self, chance, pool, codes):
        """Six claims with guards of sixteen ways; three of them such that some code keeps them."""
        found = [(large_code(chance, pool, ends=ENDS), chance.choice(pool)) for _ in range(3)]
        for code in chance.sample(codes, 3):
            ends = [end for _, end in oracle.ways(code)]
            term = chance.choice(ends)
            found.append((self.where_told(code, term), term))
        return found

    def where_told(self, code, term):
        """The guard that holds where a code comes to tell a term."""
        if code[0] == "tell":
            return ("yes",) if code[1] == term else ("no",)
        return code[:3] + (self.where_told(code[3], term), self.where_told(code[4], term))

    def test_claims(self):
        counts = {}
        for chance, pool, codes in cases():
            claims = self.claims_of(chance, pool, codes)
            kept = [[oracle.keeps_claim(code, claim) for claim in claims] for code in codes]
            for code, row in zip(codes, kept):
                for claim, right in zip(claims, row):
                    self.assertIs(self.quick(keeps_claim, code, claim), right)
                    world = self.quick(breaking_world, code, claim)
                    self.assertIs(self.quick(is_breaking_world, code, claim, world), not right)
                    self.assertIs(self.quick(is_breaking_world, code, claim, thirty_keys(chance, pool)) and right, False)
                    counts[right] = counts.get(right, 0) + 1
            for size in (0, 5):
                right = [at for at in range(6) if all(kept[index][at] for index in range(1 + size)) and not kept[6][at]]
                self.assertEqual(self.quick(lost_claims, codes[0], codes[1:1 + size] or codes[:1], codes[6], claims), right)
            guard = large_code(chance, pool, ends=ENDS)
            for claim, right in zip(claims, kept[0]):
                worlds = oracle.worlds_of(guard, claim[0])
                apart = not any(oracle.guard_holds(guard, world) and oracle.guard_holds(claim[0], world) for world in worlds)
                self.assertIs(self.quick(stands, codes[0], claim, guard), apart and right)
                self.assertIs(self.quick(stands, codes[0], claim, ("no",)), right)
        self.assertGreater(min(counts.values()), 10)

    def test_pins(self):
        for chance, pool, codes in cases():
            claims = self.claims_of(chance, pool, codes)
            kept = [[oracle.keeps_claim(code, claim) for claim in claims] for code in codes]
            for index in (0, 3, 6):
                others = [row for row, code in zip(kept, codes) if not oracle.do_same(code, codes[index])]
                right = oracle.least(6, lambda lot: all(kept[index][at] for at in lot)
                                     and not any(all(row[at] for at in lot) for row in others))
                self.assertEqual(self.quick(pins, codes, index, claims), right)
            self.assertEqual(self.quick(told_apart, codes, claims),
                             sorted({tuple(row): [at for at in range(7) if kept[at] == row] for row in kept}.values()))


if __name__ == "__main__":
    unittest.main()
