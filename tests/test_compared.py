"""Two rules compared: which banks tell which, and which strides are free by which."""

import inspect
import time
import unittest

from helping import ANY, plain_bank, random_rule, random_set, rng_of, same, told, whole, without
from lanebanks.compared import Freer, Less, Parted, Same, Split, Told, first_unlike, freer, order, same_banks, tells
from lanebanks.errors import BadNumber, BadRule, BadUnit, TooMany
from lanebanks.look_units import shows_unit
from lanebanks.rules import Rule
from lanebanks.sets import NumberSet
from lanebanks.units import Free, every_free, free_strides, is_free

MODULI = [(2,), (3,), (4,), (2, 2), (2, 3), (5,)]
NEAR = 160


def banks_of(rule, addresses):
    """The banks of addresses, as the definition tells them."""
    return [plain_bank(rule.moduli, rule.ahead, rule.turn, address) for address in addresses]


def all_banks(one, other):
    """The pairs of banks that some address has by both rules, each place being taken or not."""
    places = max(len(one.ahead), len(other.ahead)) + 40 * len(one.turn) * len(other.turn)
    found = {(0, 0)}
    for place in range(places):
        weights = one.weight(place), other.weight(place)
        found |= {(one.added(a, weights[0]), other.added(b, weights[1])) for a, b in found}
    return found


def rules_to_compare(rng, many):
    """Pairs of rules, with the same moduli or others, the one often made of the other."""
    for _ in range(many):
        one = random_rule(rng, rng.choice(MODULI), 3, 3)
        other = rng.choice([
            lambda: random_rule(rng, rng.choice(MODULI), 3, 3), lambda: random_rule(rng, one.moduli, 2, 4), lambda: -one,
            lambda: one * random_rule(rng, (2,), 2, 2), lambda: one + one, lambda: one.cut(rng.randrange(6)),
            lambda: Rule((2,), one.ahead, one.turn) if one.banks == 2 else one, lambda: one])()
        yield (one, other) if rng.random() < 0.5 else (other, one)


def first_pair(test):
    """The least second address below a bound, and the least first one for it, of which a test holds."""
    for second in range(NEAR):
        for first in range(second):
            if test(first, second):
                return first, second
    return None


class BanksTest(unittest.TestCase):
    def test_tells(self):
        rng, seen = rng_of(150), []
        for one, other in rules_to_compare(rng, 400):
            paper = tells(one, other)
            seen.append(bool(paper))
            mine, others = banks_of(one, range(NEAR)), banks_of(other, range(NEAR))
            wanted = first_pair(lambda a, b: mine[a] == mine[b] and others[a] != others[b])
            if isinstance(paper, Told):
                self.assertIsNone(wanted)
                banks = all_banks(one, other)
                self.assertEqual(len({bank for bank, _ in banks}), len(banks))
                self.assertTrue(type(paper.names) is dict and paper.names == dict(banks))
            else:
                self.assertTrue(isinstance(paper, Split))
                self.assertTrue(same((paper.first, paper.second), wanted))
        self.assertGreater(seen.count(True), 100)
        self.assertGreater(seen.count(False), 100)

    def test_same_banks(self):
        rng, seen = rng_of(151), []
        for one, other in rules_to_compare(rng, 400):
            paper = same_banks(one, other)
            seen.append(bool(paper))
            mine, others = banks_of(one, range(NEAR)), banks_of(other, range(NEAR))
            wanted = first_pair(lambda a, b: (mine[a] == mine[b]) != (others[a] == others[b]))
            self.assertIs(bool(paper), bool(tells(one, other)) and bool(tells(other, one)))
            self.assertIs(bool(same_banks(other, one)), bool(paper))
            if isinstance(paper, Same):
                self.assertIsNone(wanted)
                self.assertTrue(type(paper.names) is dict and paper.names == tells(one, other).names)
            else:
                self.assertTrue(isinstance(paper, Parted))
                self.assertTrue(same((paper.first, paper.second), wanted))
        self.assertGreater(seen.count(True), 60)
        self.assertGreater(seen.count(False), 100)

    def test_far_addresses(self):
        # Each time round takes one bank: the first address that parts them is far.
        one = Rule((7,), (), [1] + [0] * 5)
        other = one * Rule((2,), (), [0] * 5 + [1])
        self.assertEqual(tells(one, other), Split(0, 2 ** 5))
        self.assertTrue(tells(other, one))
        one, other = Rule((31,), (), [1] + [0] * 22), Rule((32,), (), [1] + [0] * 22)
        ones = [sum(2 ** (23 * at) for at in range(many)) for many in (31, 32)]
        self.assertEqual(tells(one, other), Split(0, ones[0]))
        self.assertEqual(tells(other, one), Split(0, ones[1]))
        self.assertEqual(same_banks(one, other), Parted(0, ones[0]))
        self.assertEqual(same_banks(other, one), Parted(0, ones[0]))
        ahead = Rule((2,), [0] * 22, [1])
        self.assertEqual(tells(Rule((2,), (), (0,)), ahead), Split(0, 2 ** 22))
        self.assertEqual(tells(ahead, Rule((2,), (), (0,))), Told({0: 0, 1: 0}))

    def test_rounds_of_unlike_lengths(self):
        rng = rng_of(152)
        for _ in range(60):
            one = random_rule(rng, (2,), 0, rng.choice((2, 3, 4)))
            other = random_rule(rng, rng.choice(((2,), (3,))), 2, rng.choice((3, 5, 7)))
            paper = tells(one, other)
            banks = all_banks(one, other)
            self.assertIs(bool(paper), len({bank for bank, _ in banks}) == len(banks))
            if not paper:
                self.assertEqual(one(paper.first), one(paper.second))
                self.assertNotEqual(other(paper.first), other(paper.second))
                self.assertLess(paper.first, paper.second)

    def test_banks_of_no_address(self):
        rule = Rule((4,), (), (2,))
        self.assertEqual(tells(rule, rule), Told({0: 0, 2: 2}))
        self.assertEqual(same_banks(rule, Rule((2,), (), (1,))), Same({0: 0, 2: 1}))
        self.assertEqual(tells(rule, Rule((2,), (), (0,))), Told({0: 0, 2: 0}))

    def test_what_is_told_stays_free(self):
        rng, many = rng_of(153), 0
        for one, other in rules_to_compare(rng, 60):
            if tells(one, other) and one.banks <= 4:
                many += 1
                for starts in (None, random_set(rng, 4)):
                    self.assertTrue(free_strides(other, 3, starts).within(free_strides(one, 3, starts)))
                    self.assertIn(order(one, other, 3, starts), ("alike", "better"))
        self.assertGreater(many, 10)

    def test_great_rules_in_a_short_time(self):
        rng, begin = rng_of(154), time.perf_counter()
        for _ in range(20):
            one, other = [random_rule(rng, rng.choice([(32,), (2,) * 5, (31,), (4, 8)]), 12, 12) for _ in range(2)]
            tells(one, other)
            same_banks(one, other)
        turns = [Rule((32,), (), [1] + [0] * 23), Rule((31,), (), [1] + [0] * 22), Rule((27,), [0], [0] * 22 + [1])]
        for one in turns:
            for other in turns:
                self.assertIs(bool(same_banks(one, other)), one == other)
        self.assertLess(time.perf_counter() - begin, 30)


class StridesTest(unittest.TestCase):
    def check(self, one, other, lanes, starts, named):
        """What is told of two rules, against a plain look at all small strides."""
        values = {"starts": starts} if named else {}
        args = (one, other, lanes) if named else (one, other, lanes, starts)
        mine, others = [[is_free(rule, lanes, s, starts) for s in range(64)] for rule in (one, other)]
        paper = freer(*args, **values)
        less = [s for s in range(64) if others[s] and not mine[s]]
        unlike = [s for s in range(64) if others[s] != mine[s]]
        if isinstance(paper, Less):
            self.assertIs(type(paper.stride), int)
            self.assertEqual(paper.stride, less[0] if less else max(64, paper.stride))
            self.assertTrue(is_free(other, lanes, paper.stride, starts) and not is_free(one, lanes, paper.stride, starts))
        else:
            self.assertTrue(isinstance(paper, Freer) and not less)
            self.assertEqual(paper.strides, free_strides(other, lanes, starts))
            self.assertEqual(Free(paper.tables), every_free(one, lanes, paper.strides, starts))
            self.assertIs(shows_unit(one, lanes, paper.strides, Free(paper.tables), starts), True)
        found = first_unlike(*args, **values)
        if found is None or found >= 64:
            self.assertEqual(unlike, [])
        else:
            self.assertEqual(found, unlike[0])
        word = order(*args, **values)
        back = freer(other, one, lanes, starts)
        wanted = {(True, True): "alike", (True, False): "better", (False, True): "worse", (False, False): "apart"}
        self.assertEqual(word, wanted[bool(paper), bool(back)])
        self.assertIs(found is None, word == "alike")
        return word

    def test_all_starts_and_sets_of_starts(self):
        rng, seen = rng_of(155), set()
        for one, other in rules_to_compare(rng, 120):
            if one.banks <= 6 and other.banks <= 6 and one.classes <= 6 and other.classes <= 6:
                starts = rng.choice([None, None, random_set(rng, 4), NumberSet.multiples(4), NumberSet.none()])
                lanes = rng.randint(2, 4)
                if told(order, one, other, lanes, starts) == "none":
                    seen.add(self.check(one, other, lanes, starts, rng.random() < 0.5))
        self.assertEqual(seen, {"alike", "better", "worse", "apart"})

    def test_by_name(self):
        one, other, starts = Rule.modulo(4), Rule.padded(4, 2, 1), NumberSet.multiples(4)
        for work in (freer, first_unlike, order):
            found = work(limit=900, starts=starts, lanes=4, other=other, one=one)
            self.assertEqual(found, work(one, other, 4, starts, 900))
            self.assertEqual(found, work(one, other, 4, starts))
        self.assertEqual(tells(other=other, one=one), tells(one, other))
        self.assertEqual(same_banks(other=other, one=one), same_banks(one, other))

    def test_far_strides(self):
        # Below the place 20 no digit counts by either rule.
        one, other = Rule((2,), [0] * 20 + [1], (0,)), Rule((2,), [0] * 20, (1,))
        found = first_unlike(one, other, 2)
        self.assertIs(is_free(one, 2, found), not is_free(other, 2, found))
        unlike = free_strides(one, 2) ^ free_strides(other, 2)
        self.assertTrue(found in unlike and unlike.count(found) == 0)
        self.assertGreaterEqual(found, 2 ** 20)
        self.assertEqual(freer(other, one, 2), Less(found))
        self.assertEqual(freer(one, other, 2).strides, NumberSet.of(0))

    def test_limits(self):
        one, other = Rule.modulo(31), Rule.padded(8, 3, 1)
        for first, second in ((one, other), (other, one)):
            many = max(free_strides(rule, 4).states for rule in (one, other))
            for work in (freer, first_unlike, order):
                self.assertEqual(told(work, first, second, 4, None, many), "none")
                for limit in (1, many - 1):
                    error = (TooMany, {"what": "states", "most": limit})
                    self.assertEqual(told(work, first, second, 4, None, limit), error)
        for work in (freer, first_unlike, order):
            self.assertEqual(inspect.signature(work).parameters["limit"].default, 2000)

    def test_too_many_rows(self):
        rule = Rule.modulo(31)
        error = (TooMany, {"what": "rows", "most": 600000})
        self.assertEqual(told(freer, rule, rule, 5, NumberSet.multiples(499)), error)


class ErrorsTest(unittest.TestCase):
    def test_errors_in_order(self):
        rule = Rule.modulo(4)
        for value in without(lambda value: isinstance(value, Rule)):
            for work, more in ((tells, ()), (same_banks, ()), (freer, (0, 0, 0)), (first_unlike, (0, 0, 0)), (order, (0, 0, 0))):
                self.assertEqual(told(work, value, value, *more), (BadRule, {"part": "one"}))
                self.assertEqual(told(work, rule, value, *more), (BadRule, {"part": "other"}))
        for work in (freer, first_unlike, order):
            for value in without(lambda value: whole(value, 2, 16)) + [17]:
                self.assertEqual(told(work, rule, rule, value, 0, 0), (BadUnit, {"part": "lanes"}))
            for value in without(lambda value: value is None or isinstance(value, NumberSet)):
                self.assertEqual(told(work, rule, rule, 2, value, 0), (BadUnit, {"part": "starts"}))
            for value in without(lambda value: whole(value, 1, 2000), ANY + [0, 2001]):
                self.assertTrue(same(told(work, rule, rule, 2, None, value), (BadNumber, {"value": value})))


if __name__ == "__main__":
    unittest.main()
