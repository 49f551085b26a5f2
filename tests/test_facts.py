"""The facts of the document, over drawn small rules."""

import unittest

from helping import banks_seen, cut_rule, plain_parts, random_rule, random_set, rng_of
from lanebanks.compared import tells
from lanebanks.distances import distances, is_distance
from lanebanks.memory import Memory
from lanebanks.sets import NumberSet
from lanebanks.tiles import Pattern, clear
from lanebanks.units import free_strides, is_free, meeting
from lanebanks.worst import shared, worst

MODULI = [(2,), (3,), (4,), (2, 2)]


def small_rule(rng):
    """A rule of at most 4 banks and few classes, and how many starts are enough to see all that it does.

    Of a rule that is cut only the last digits of an address count.
    """
    return cut_rule(rng, rng.choice(MODULI), 3)


def random_pattern(rng, most=5):
    """A pattern of few offsets."""
    return Pattern(*[rng.randrange(rng.choice((4, 12, 40))) for _ in range(rng.randint(1, most))])


def meets_at(rule, start, offsets):
    """Whether two unlike ones of some addresses are in one bank."""
    banks = banks_seen(rule, start, sorted(set(offsets)))
    return len(set(banks)) < len(banks)


class StatementTest(unittest.TestCase):
    def test_meetings_by_distances(self):
        # For all starts two lanes meet exactly if their distance is one at which two addresses can be in one bank.
        rng, seen = rng_of(250), []
        for _ in range(60):
            rule, _ = small_rule(rng) if rng.random() < 0.5 else (random_rule(rng, rng.choice(MODULI), 2, 2), 0)
            one = rng.randrange(4)
            other = rng.randint(one + 1, 5)
            strides = meeting(rule, one, other)
            for stride in list(range(1, 20)) + [rng.randrange(1, 10 ** 29)]:
                wanted = is_distance(rule, (other - one) * stride)
                seen.append(wanted)
                self.assertIs(stride in strides, wanted)
            self.assertIs(0 in strides, False)
            self.assertEqual(strides, distances(rule).solved(other - one))
        self.assertGreater(min(seen.count(True), seen.count(False)), 100)

    def test_meetings_at_starts_of_a_set(self):
        rng, seen = rng_of(251), []
        for _ in range(60):
            rule, _ = small_rule(rng)
            starts, (one, other) = random_set(rng, 4), sorted(rng.sample(range(4), 2))
            strides = meeting(rule, one, other, starts)
            counted = [start for start in range(300) if start in starts]
            for stride in range(1, 14):
                wanted = any(meets_at(rule, start, (one * stride, other * stride)) for start in counted)
                seen.append(wanted)
                self.assertIs(stride in strides, wanted)
        self.assertGreater(min(seen.count(True), seen.count(False)), 50)

    def test_aligned_starts(self):
        # What is free for aligned starts need not be free for all.
        rng, seen = rng_of(252), []
        for _ in range(60):
            rule, many = small_rule(rng)
            free, aligned = free_strides(rule, 3), free_strides(rule, 3, NumberSet.multiples(many))
            seen.append(free == aligned)
            self.assertTrue(free.within(aligned))
        self.assertGreater(seen.count(False), 5)


class PatternsTest(unittest.TestCase):
    def test_clear_exactly_if_no_gap_is_a_distance(self):
        rng, seen = rng_of(253), []
        for _ in range(200):
            rule, many = small_rule(rng)
            pattern = random_pattern(rng)
            wanted = not any(meets_at(rule, start, pattern) for start in range(many))
            seen.append(wanted)
            self.assertIs(bool(clear(rule, pattern)), wanted)
            self.assertIs(not any(is_distance(rule, gap) for gap in pattern.gaps()), wanted)
        self.assertGreater(min(seen.count(True), seen.count(False)), 40)

    def test_clear_exactly_if_one_address_at_most_shares(self):
        rng, seen = rng_of(254), []
        for _ in range(200):
            rule, many = small_rule(rng) if rng.random() < 0.7 else (random_rule(rng, rng.choice(MODULI), 2, 2), 64)
            pattern = random_pattern(rng, 4)
            paper = shared(rule, pattern, 20000)
            seen.append(paper.number == 1)
            self.assertIs(bool(clear(rule, pattern)), paper.number == 1)
            crowds = [banks_seen(rule, start, pattern) for start in range(many)]
            greatest = max(banks.count(bank) for banks in crowds for bank in banks)
            self.assertLessEqual(greatest, paper.number)
            if rule.is_cut:
                self.assertEqual(greatest, paper.number)
        self.assertGreater(min(seen.count(True), seen.count(False)), 40)

    def test_equal_banks_of_stands(self):
        # At a start as many addresses share a bank as equal banks stand in the stand behind all digits.
        rng = rng_of(255)
        for _ in range(60):
            rule, pattern = random_rule(rng, rng.choice(MODULI), 2, 2), random_pattern(rng, 3)
            paper = shared(rule, pattern, 20000)
            for start in (0, 1, rng.randrange(99), rng.randrange(10 ** 12)):
                first, banks = banks_seen(rule, start, (0,))[0], banks_seen(rule, start, pattern)
                stand = ((0,) * len(pattern), tuple(less(rule, bank, first) for bank in banks))
                self.assertTrue(any(stand in stands for stands in paper.behind))
                self.assertEqual(max(map(banks.count, banks)), max(map(stand[1].count, stand[1])))


def less(rule, one, other):
    """The bank that makes one if other is added to it, part by part."""
    bank, many = 0, 1
    for a, b, modulus in zip(plain_parts(rule.moduli, one), plain_parts(rule.moduli, other), rule.moduli):
        bank += (a - b) % modulus * many
        many *= modulus
    return bank


class UnitsTest(unittest.TestCase):
    def test_one_tick_at_each_start_just_if_free(self):
        rng, seen = rng_of(256), []
        for _ in range(300):
            rule, many = small_rule(rng)
            lanes, stride = rng.randint(2, 4), rng.randrange(16)
            memory = Memory(rule, lanes)
            wanted = all(memory.load_unit(start, stride).ticks == 1 for start in range(many))
            seen.append(wanted)
            self.assertIs(is_free(rule, lanes, stride), wanted)
            self.assertIs(stride in free_strides(rule, lanes), wanted)
            self.assertIs(worst(rule, lanes, stride).number == 1, wanted)
        self.assertGreater(min(seen.count(True), seen.count(False)), 40)

    def test_what_is_told_stays_free(self):
        rng, many = rng_of(257), 0
        for _ in range(60):
            rule, _ = small_rule(rng)
            one, other = rng.choice(((rule * rule.cut(1), rule), (rule * -rule, rule), (rule, rule.cut(0)), (rule, -rule)))
            if tells(one, other) and one.classes <= 6:
                many += 1
                starts = rng.choice((None, random_set(rng, 3)))
                self.assertTrue(free_strides(other, 3, starts).within(free_strides(one, 3, starts)))
        self.assertGreater(many, 30)


if __name__ == "__main__":
    unittest.main()
