"""Whether patterns are clear, and the pitches at which tiles are."""

import inspect
import time
import unittest

from helping import ANY, banks_seen, cut_rule, random_rule, rng_of, same, told, whole, without
from lanebanks.distances import distance
from lanebanks.errors import BadNumber, BadRule, BadTile, TooMany
from lanebanks.rules import Rule
from lanebanks.sets import NumberSet
from lanebanks.tiles import Clear, Jam, Pattern, clear, free_pitches, next_pitch

GREAT, FAR = 10 ** 30, 10 ** 28
SMALL = [(2,), (3,), (4,), (2, 2)]
TILES = [(width, height) for width in range(1, 9) for height in range(1, 9) if width * height <= 16]


def is_clear(rule, pattern):
    """Whether no gap of a pattern is a distance."""
    return not any(distance(rule, gap) for gap in pattern.gaps())


class ClearTest(unittest.TestCase):
    def check(self, rule, pattern):
        """That the paper of a pattern is right; returns whether it is clear."""
        paper = clear(rule, pattern)
        if isinstance(paper, Jam):
            self.assertTrue(whole(paper.start, 0, 10 ** 9999) and paper.one in pattern and paper.other in pattern)
            self.assertLess(paper.one, paper.other)
            one, other = banks_seen(rule, paper.start, (paper.one, paper.other))
            self.assertEqual(one, other)
        else:
            self.assertTrue(isinstance(paper, Clear) and type(paper.papers) is dict)
            self.assertEqual(sorted(paper.papers), list(pattern.gaps()))
            for gap, never in paper.papers.items():
                self.assertEqual(never, distance(rule, gap))
                self.assertFalse(never)
        return bool(paper)

    def test_rules_that_are_cut(self):
        rng, seen = rng_of(120), []
        for _ in range(200):
            rule, many = cut_rule(rng, None, 5)
            pattern = Pattern(*[rng.randrange(2 ** rng.randint(1, 20)) for _ in range(rng.randint(1, 4))])
            rows = [banks_seen(rule, start, pattern) for start in range(many)]
            wanted = all(len(set(banks)) == len(banks) for banks in rows)
            seen.append(wanted)
            self.assertIs(self.check(rule, pattern), wanted)
        self.assertGreater(seen.count(True), 30)

    def test_other_rules(self):
        rng, seen = rng_of(121), []
        for _ in range(200):
            rule = random_rule(rng, rng.choice(SMALL + [(7,), (8,), (3, 2, 2)]), 4, 4)
            pattern = Pattern(*[rng.randrange(2 ** rng.randint(1, 99)) for _ in range(rng.randint(1, 3))])
            seen.append(self.check(rule, pattern))
            self.assertIs(seen[-1], is_clear(rule, pattern))
        self.assertGreater(seen.count(True), 30)

    def test_starts_below_the_offsets(self):
        # The least address of a meeting lies below the offset: both addresses are moved.
        for rule in (Rule.modulo(4), Rule.modulo(31), Rule((4,), (1, 2, 1, 2), (0,)), Rule.xor(2, 8)):
            for offsets in ((5, 9), (1000, 1004), (GREAT - 31, GREAT), (10 ** 20, 10 ** 20 + 31 * 4)):
                self.check(rule, Pattern(*offsets))

    def test_one_address(self):
        for offset in (0, 7, GREAT):
            self.assertEqual(clear(Rule((2,), (), (0,)), Pattern(offset)), Clear({}))

    def test_many_offsets_in_a_short_time(self):
        rng, begin = rng_of(122), time.perf_counter()
        pattern = Pattern.strided(32, 1)
        self.assertIs(self.check(Rule.modulo(32), pattern), True)
        self.assertIs(self.check(Rule.modulo(32), Pattern.strided(32, 10 ** 28 - 1)), True)
        offsets = [at + 32 * rng.randrange(10 ** 28) for at in range(32)]
        self.assertIs(self.check(Rule.modulo(32), Pattern(*offsets)), True)
        self.assertIs(self.check(Rule.modulo(31), Pattern(*offsets)), False)
        self.assertLess(time.perf_counter() - begin, 30)

    def test_errors_in_order(self):
        for value in without(lambda value: isinstance(value, Rule)):
            self.assertEqual(told(clear, value, None), (BadRule, {"part": "rule"}))
            self.assertEqual(told(clear, value, Pattern(0)), (BadRule, {"part": "rule"}))
        for value in without(lambda value: isinstance(value, Pattern)) + [(0, 1)]:
            self.assertEqual(told(clear, Rule.modulo(4), value), (BadTile, {"part": "pattern"}))
        self.assertEqual(clear(pattern=Pattern(0), rule=Rule.modulo(4)), Clear({}))


class PitchesTest(unittest.TestCase):
    def test_all_small_pitches(self):
        rng = rng_of(123)
        for _ in range(40):
            rule = random_rule(rng, rng.choice(SMALL), 4, 2)
            for width, height in rng.sample(TILES, 8) + [(2, 2), (1, 4), (1, 3)]:
                found = free_pitches(rule, width, height)
                for pitch in range(20):
                    wanted = is_clear(rule, Pattern.tiled(width, height, pitch))
                    self.assertIs(pitch in found, wanted, (str(rule), width, height, pitch))

    def test_addresses_modulo_any_number(self):
        for banks in (2, 3, 4, 5, 7, 12, 16, 17, 23, 27, 31, 32):
            rule = Rule.modulo(banks)
            for width, height in TILES:
                found = free_pitches(rule, width, height)
                for pitch in list(range(12)) + [banks * 10 ** 20, banks * 10 ** 20 + width, 10 ** 30 + 1]:
                    offsets = {x + y * pitch for x in range(width) for y in range(height)}
                    wanted = len({offset % banks for offset in offsets}) == len(offsets)
                    self.assertIs(pitch in found, wanted, (banks, width, height, pitch))

    def test_far_pitches(self):
        rng = rng_of(124)
        for rule in (Rule.modulo(31), Rule.padded(8, 3, 1), Rule.xor(3, 3), Rule.padded(4, 2, 1), Rule((2, 2), (1, 2), (3,))):
            for width, height in ((2, 2), (3, 1), (1, 4), (2, 4), (4, 2), (1, 8)):
                found = free_pitches(rule, width, height)
                for pitch in [FAR, FAR - 1] + [rng.randrange(2 ** rng.randint(1, 93)) for _ in range(8)]:
                    wanted = is_clear(rule, Pattern.tiled(width, height, pitch))
                    self.assertIs(pitch in found, wanted)

    def test_next_pitch(self):
        rng = rng_of(125)
        rules = [Rule.modulo(4), Rule.modulo(17), Rule.padded(4, 2, 1), Rule.padded(8, 3, 1), random_rule(rng, (4,), 3, 2)]
        for rule in rules:
            for width, height in ((1, 1), (2, 2), (4, 1), (3, 2), (8, 2), (1, 4)):
                found = free_pitches(rule, width, height)
                for begin in (0, 1, 2, 3, 5, 17, 10 ** 20, 10 ** 40):
                    self.assertTrue(same(next_pitch(rule, width, height, begin), found.next_from(begin)))
                self.assertEqual(next_pitch(rule, width, height), found.next_from(0))
        self.assertEqual(next_pitch(Rule.modulo(4), 2, 2, 2 ** 5000), 2 ** 5000 + 2)
        self.assertIsNone(next_pitch(Rule.modulo(4), 3, 2, 2 ** 5000))
        self.assertEqual(next_pitch(begin=3, height=2, width=2, rule=Rule.modulo(4)), 6)

    def test_below_the_width(self):
        # Modulo 5 the pitch 1 makes a row of five addresses, the pitch 2 one of six; 0 makes one of four.
        rule = Rule.modulo(5)
        self.assertEqual(list(free_pitches(rule, 4, 2).members()), [0, 1])
        self.assertEqual(list(free_pitches(rule, 3, 2).members()), [0, 1, 2])
        self.assertEqual(list(free_pitches(rule, 6, 2).members()), [])

    def test_one_row(self):
        for rule in (Rule.modulo(4), Rule.padded(4, 2, 1), Rule.xor(1)):
            for width in range(1, 9):
                free = is_clear(rule, Pattern.strided(width, 1))
                self.assertEqual(free_pitches(rule, width, 1), NumberSet.every() if free else NumberSet.none())

    def test_limits(self):
        for rule, width, height in ((Rule.modulo(17), 2, 2), (Rule.padded(8, 3, 1), 2, 2), (Rule.modulo(4), 1, 4)):
            many = free_pitches(rule, width, height).states
            self.assertEqual(free_pitches(rule, width, height, many), free_pitches(rule, width, height))
            self.assertEqual(free_pitches(limit=2000, height=height, width=width, rule=rule).states, many)
            for limit in (1, many - 1):
                error = (TooMany, {"what": "states", "most": limit})
                self.assertEqual(told(free_pitches, rule, width, height, limit), error)
        self.assertEqual(inspect.signature(free_pitches).parameters["limit"].default, 2000)
        for work in (free_pitches, next_pitch):
            error = (TooMany, {"what": "states", "most": 2000})
            self.assertEqual(told(work, Rule.padded(31, 5, 3), 1, 8), error)

    def test_small_rules_come_in_a_short_time(self):
        rng, begin = rng_of(126), time.perf_counter()
        for _ in range(100):
            rule = random_rule(rng, rng.choice(SMALL), 4, 4)
            if rule.classes <= 6:
                for width, height in ((2, 2), (1, 4), (1, 3), (4, 4), (8, 2)):
                    free_pitches(rule, width, height)
        for banks in (29, 31, 32, 27, 25):
            if banks != 29:
                for width, height in ((4, 4), (8, 2), (2, 8), (1, 8)):
                    free_pitches(Rule.modulo(banks), width, height)
        self.assertLess(time.perf_counter() - begin, 30)

    def test_errors_in_order(self):
        rule = Rule.modulo(4)
        for work in (free_pitches, next_pitch):
            for value in without(lambda value: isinstance(value, Rule)):
                self.assertEqual(told(work, value, 0, 0, -1), (BadRule, {"part": "rule"}))
            for value in without(lambda value: whole(value, 1, 8)) + [0, 9]:
                self.assertEqual(told(work, rule, value, 0, -1), (BadTile, {"part": "width"}))
                self.assertEqual(told(work, rule, 1, value, -1), (BadTile, {"part": "height"}))
            for width, height in ((8, 3), (3, 6), (8, 8), (5, 4)):
                self.assertEqual(told(work, rule, width, height, -1), (BadTile, {"part": "height"}))
            self.assertEqual(told(work, rule, 8, 2), "none")
        for value in without(lambda value: whole(value, 1, 2000), ANY + [0, 2001]):
            self.assertTrue(same(told(free_pitches, rule, 2, 2, value), (BadNumber, {"value": value})))
        for value in without(lambda value: whole(value, 0, 10 ** 99), ANY + [-1]):
            self.assertTrue(same(told(next_pitch, rule, 2, 2, value), (BadNumber, {"value": value})))


if __name__ == "__main__":
    unittest.main()
