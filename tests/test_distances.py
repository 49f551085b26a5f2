"""Distances: the set of them, single ones, their papers, and the starts at which they meet."""

import inspect
import time
import unittest

from helping import ANY, plain_bank, random_rule, rng_of, same, told, whole, without
from lanebanks.distances import Meets, Never, distance, distances, is_distance, meeting_starts
from lanebanks.errors import BadNumber, BadRule, TooMany
from lanebanks.rules import Rule
from lanebanks.sets import NumberSet

GREAT = 10 ** 30
SMALL = [(2,), (3,), (2, 2), (4,)]


def plain_banks(rule, below):
    """The banks of the addresses below a bound."""
    return [plain_bank(rule.moduli, rule.ahead, rule.turn, address) for address in range(below)]


def plain_sum(rule, places, address):
    """The sum of the weights of the first places at which an address has the digit 1, as parts."""
    return rule.parts(rule(address % 2 ** places))


def plain_row(rule, places, start, d):
    """The carry and the bank of a row behind some places, as they are told."""
    carry = (start % 2 ** places + d % 2 ** places) >> places
    one, other = plain_sum(rule, places, start), plain_sum(rule, places, start % 2 ** places + d % 2 ** places)
    return carry, rule.bank_of(*[(b - a) % m for a, b, m in zip(one, other, rule.moduli)])


def plain_level(rule, places, d):
    """The level behind some places, by a look at all starts."""
    return tuple(sorted({plain_row(rule, places, start, d) for start in range(2 ** places)}))


def plain_back(rule, d, beyond):
    """The rows behind all digits of d and up to so many places more, by a look at all starts."""
    rows = set()
    for places in range(d.bit_length(), d.bit_length() + beyond + 1):
        rows |= {(rule.class_of(places),) + row for row in plain_level(rule, places, d)}
    return tuple(sorted(rows))


class SingleTest(unittest.TestCase):
    def test_all_near_distances_and_least_starts(self):
        rng = rng_of(60)
        rules = [random_rule(rng, rng.choice(SMALL), 3, 2) for _ in range(40)]
        rules += [Rule.modulo(5), Rule.xor(2, 2), Rule.xor(1)]
        for rule in rules:
            # A carry that runs on comes round behind all classes with all banks.
            most = 6 + rule.classes * rule.banks
            banks = plain_banks(rule, 2 ** min(most, 13))
            every = distances(rule)
            self.assertNotIn(0, every)
            for d in range(1, 36):
                starts = [start for start in range(len(banks) - d) if banks[start] == banks[start + d]]
                paper = distance(rule, d)
                self.assertIs(d in every, bool(paper))
                self.assertIs(is_distance(rule, d), bool(paper))
                if starts:
                    self.assertTrue(isinstance(paper, Meets) and same(paper.start, starts[0]))
                elif most <= 13:
                    self.assertTrue(isinstance(paper, Never))

    def test_carries_that_run_on(self):
        # Only carries through more digits than d has bring the sum of the weights back.
        for text, d, start in (
                ("moduli 7 ahead 3 2 round 1 2 3", 1, 16383), ("moduli 16 ahead - round 11 2 1", 2, 32766),
                ("moduli 8 ahead - round 7 6 4", 3, 32765), ("moduli 5 ahead - round 3 1 4", 5, 2043),
                ("moduli 5 ahead 3 1 round 1 2 4", 3, 16381)):
            rule = Rule.read(text)
            banks = [rule(address) for address in range(start + d + 1)]
            self.assertEqual([at for at in range(start + 1) if banks[at] == banks[at + d]], [start])
            self.assertEqual(distance(rule, d), Meets(start))
        # Each time round takes 1 of the 31 banks: 28 times round, and the place ahead.
        rule = Rule((31,), [2], [1] + [0] * 22)
        self.assertEqual(distance(rule, 1), Meets(2 ** (1 + 23 * 28 + 1) - 1))
        self.assertEqual(meeting_starts(rule, 1).least, distance(rule, 1).start)

    def test_levels_and_back(self):
        rng = rng_of(61)
        seen = 0
        for _ in range(150):
            rule = random_rule(rng, rng.choice([(2,), (3,), (4,), (2, 2)]), 3, 2)
            for d in (1, 2, 3, 4, 5, 6, 7, 8, 11, 12):
                paper = distance(rule, d)
                if not paper:
                    seen += 1
                    levels = tuple(plain_level(rule, places, d) for places in range(d.bit_length() + 1))
                    self.assertTrue(same(paper.levels, levels))
                    beyond = min(rule.classes * rule.banks, 9 - d.bit_length())
                    some = plain_back(rule, d, beyond)
                    self.assertEqual(set(some) - set(paper.back), set())
                    if rule.classes * rule.banks <= beyond:
                        self.assertTrue(same(paper.back, some))
                    self.check_back(rule, d, paper)
        self.assertGreater(seen, 100)

    def check_back(self, rule, d, paper):
        """That back has the rows of the last level and those to which they lead, ascending, and nothing else."""
        rows = [(rule.class_of(d.bit_length()),) + row for row in paper.levels[-1]]
        for number, carry, bank in rows:
            weight, after = (rule.ahead + rule.turn)[number], rule.next_class(number)
            if carry == 0:
                ends = [(after, 0, bank)]
            else:
                ends = [(after, 0, rule.added(bank, weight)), (after, 1, rule.less(bank, weight))]
            rows.extend(end for end in ends if end not in rows)
        self.assertTrue(same(paper.back, tuple(sorted(rows))))
        self.assertFalse(any(row[1:] == (0, 0) for row in paper.back))

    def test_great_levels(self):
        rng = rng_of(62)
        for rule in (Rule.modulo(32), Rule.modulo(27), Rule.padded(8, 3, 1), Rule.modulo(3) * Rule.xor(3)):
            for _ in range(10):
                d = rng.randrange(GREAT)
                paper = distance(rule, d)
                if not paper:
                    self.assertEqual(len(paper.levels), d.bit_length() + 1)
                    for places in (0, 1, 2, 3, 4, 5, 6):
                        self.assertTrue(same(paper.levels[places], plain_level(rule, places, d)))
                    for _ in range(50):
                        start, places = rng.randrange(2 ** 110), rng.randint(0, d.bit_length())
                        self.assertIn(plain_row(rule, places, start, d), paper.levels[places])
                    self.check_back(rule, d, paper)

    def test_great_distances(self):
        rng = rng_of(63)
        rules = [random_rule(rng, None, 12, 12) for _ in range(20)]
        rules += [Rule.modulo(27), Rule.xor(5), Rule.padded(32, 5, 7)]
        for rule in rules:
            for d in (GREAT, GREAT - 1, 2 ** 99, 2 ** 99 - 1, rng.randrange(1, GREAT), rng.randrange(1, GREAT)):
                paper = distance(rule, d)
                if paper:
                    self.assertEqual(rule(paper.start), rule(paper.start + d))
                self.assertIs(is_distance(rule, d), bool(paper))
                for _ in range(40):
                    start = rng.randrange(2 ** rng.randint(1, 130))
                    if rule(start) == rule(start + d):
                        self.assertTrue(paper)
                        self.assertLessEqual(paper.start, start)

    def test_least_starts_of_great_distances(self):
        rng = rng_of(64)
        for _ in range(30):
            rule = random_rule(rng, rng.choice([(2,), (3,), (2, 2)]), 3, 3)
            d = rng.randrange(1, 2 ** rng.randint(30, 99))
            paper, least = distance(rule, d), meeting_starts(rule, d).least
            self.assertIs(bool(paper), least is not None)
            if paper:
                self.assertEqual(paper, Meets(least))

    def test_modulo(self):
        for banks in (2, 3, 7, 12, 25, 32):
            rule = Rule.modulo(banks)
            for d in (1, banks - 1, banks, banks + 1, 10 * banks, banks * 10 ** 28, banks * 10 ** 28 + 1):
                self.assertIs(is_distance(rule, d), d % banks == 0)
                self.assertTrue(distance(rule, d) == Meets(0) if d % banks == 0 else not distance(rule, d))

    def test_by_name(self):
        rule = Rule.modulo(4)
        self.assertEqual(distance(d=2, rule=rule), distance(rule, 2))
        self.assertIs(is_distance(d=4, rule=rule), True)
        self.assertEqual(meeting_starts(limit=5, d=4, rule=rule), NumberSet.every())
        self.assertEqual(distances(limit=50, rule=rule), distances(rule))


class SetTest(unittest.TestCase):
    def test_modulo(self):
        for banks in range(2, 33):
            if banks != 29:
                self.assertEqual(distances(Rule.modulo(banks)), NumberSet.multiples(banks) - NumberSet.of(0))

    def test_small_rules_come_in_a_short_time(self):
        rng, begin = rng_of(65), time.perf_counter()
        for _ in range(200):
            rule = random_rule(rng, rng.choice(SMALL), 5, 6)
            if rule.classes <= 6:
                found = distances(rule)
                for d in [rng.randrange(1, 2 ** rng.randint(1, 90)) for _ in range(4)]:
                    self.assertIs(d in found, is_distance(rule, d))
        self.assertLess(time.perf_counter() - begin, 30)

    def test_no_weights_and_one_weight(self):
        self.assertEqual(distances(Rule((4,), (), (0,))), NumberSet.between(1))
        self.assertEqual(distances(Rule((2,), (1,), (0,))), NumberSet.multiples(2) - NumberSet.of(0))
        self.assertEqual(distances(Rule((2,), (0, 1), (0,))), NumberSet.between(1) - NumberSet.multiples(4, 2))

    def test_limits(self):
        for rule in (Rule.modulo(4), Rule.modulo(31), Rule.xor(2, 2), Rule.padded(4, 2, 1)):
            many = distances(rule).states
            self.assertEqual(distances(rule, many), distances(rule))
            self.assertEqual(distances(rule, 2000), distances(rule))
            for limit in (1, many - 1):
                self.assertEqual(told(distances, rule, limit), (TooMany, {"what": "states", "most": limit}))
        for d in (1, 5, 10 ** 20):
            rule = Rule.xor(2)
            many = meeting_starts(rule, d).states
            self.assertEqual(meeting_starts(rule, d, many), meeting_starts(rule, d))
            self.assertEqual(told(meeting_starts, rule, d, many - 1), (TooMany, {"what": "states", "most": many - 1}))

    def test_limits_that_are_not_told(self):
        for work in (distances, meeting_starts):
            self.assertEqual(inspect.signature(work).parameters["limit"].default, 2000)

    def test_too_many_for_two_thousand(self):
        rule = Rule((2,) * 5, (3, 9, 17, 30, 5), [1, 2, 4, 8, 16, 31, 7])
        self.assertEqual(told(meeting_starts, rule, 10 ** 30 - 12345), (TooMany, {"what": "states", "most": 2000}))


class StartsTest(unittest.TestCase):
    def test_near_and_great_starts(self):
        rng = rng_of(66)
        for _ in range(60):
            rule = random_rule(rng, None, 5, 4)
            for d in (1, 2, 3, 6, rng.randrange(1, 200), rng.randrange(1, 2 ** 40)):
                error = told(meeting_starts, rule, d)
                if error != "none":
                    self.assertEqual(error, (TooMany, {"what": "states", "most": 2000}))
                    continue
                found = meeting_starts(rule, d)
                self.assertTrue(isinstance(found, NumberSet))
                for start in list(range(150)) + [2 ** 50 - 1, 2 ** 50 - d if d < 2 ** 50 else 5, 10 ** 40, 3 ** 200]:
                    self.assertIs(start in found, rule(start) == rule(start + d))
                for _ in range(20):
                    start = rng.randrange(2 ** rng.randint(1, 140))
                    self.assertIs(start in found, rule(start) == rule(start + d))

    def test_great_distances(self):
        for d in (GREAT, GREAT - 1, 2 ** 99 + 1):
            found = meeting_starts(Rule.modulo(3), d)
            self.assertEqual(found, NumberSet.every() if d % 3 == 0 else NumberSet.none())
            rule = Rule.xor(1)
            found = meeting_starts(rule, d)
            for start in (0, 1, 5, d, 2 ** 130 - d, 2 ** 100 - 1, 10 ** 35 + 17):
                self.assertIs(start in found, rule(start) == rule(start + d))


class ErrorsTest(unittest.TestCase):
    def test_wrong_rules(self):
        for value in ANY + ["moduli 2 ahead - round 1"]:
            if not isinstance(value, Rule):
                wanted = (BadRule, {"part": "rule"})
                for d in (1, 0, None):
                    self.assertEqual(told(distance, value, d), wanted)
                    self.assertEqual(told(is_distance, value, d), wanted)
                    self.assertEqual(told(meeting_starts, value, d, d), wanted)
                    self.assertEqual(told(distances, value, d), wanted)
                self.assertEqual(told(distances, value), wanted)

    def test_wrong_distances(self):
        rule = Rule.modulo(4)
        for value in without(lambda value: whole(value, 1, GREAT)) + [0, -1, GREAT + 1]:
            wanted = (BadNumber, {"value": value})
            self.assertTrue(same(told(distance, rule, value), wanted))
            self.assertTrue(same(told(is_distance, rule, value), wanted))
            self.assertTrue(same(told(meeting_starts, rule, value), wanted))
            self.assertTrue(same(told(meeting_starts, rule, value, "no limit"), wanted))
        for value in (1, GREAT):
            self.assertEqual(told(is_distance, rule, value), "none")

    def test_wrong_limits(self):
        rule = Rule.modulo(4)
        for value in without(lambda value: whole(value, 1, 2000)) + [0, 2001, -1]:
            wanted = (BadNumber, {"value": value})
            self.assertTrue(same(told(distances, rule, value), wanted))
            self.assertTrue(same(told(meeting_starts, rule, 3, value), wanted))
        self.assertEqual(told(distances, Rule((4,), (), (0,)), 1), (TooMany, {"what": "states", "most": 1}))
        self.assertEqual(told(distances, Rule((4,), (), (0,)), 2), "none")
        self.assertEqual(told(meeting_starts, Rule((4,), (), (0,)), 3, 1), "none")


if __name__ == "__main__":
    unittest.main()
