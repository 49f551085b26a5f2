"""Units: at which strides lanes meet, which ones are free, and the papers of both."""

import inspect
import time
import unittest
from unittest import mock

import lanebanks.units
from helping import ANY, banks_seen, cut_rule, listed, plain_row, random_rule, random_set, rng_of, same, told, whole
from helping import without
from lanebanks.distances import distances
from lanebanks.errors import BadNumber, BadRule, BadUnit, TooMany
from lanebanks.rules import Rule
from lanebanks.sets import NumberSet
from lanebanks.units import Clash, Free, every_free, first_clash, free_strides, is_free, meeting, unit

GREAT = 10 ** 30
FEW = [(2,), (3,), (4,), (2, 2)]
NOT_ZERO = NumberSet.between(1)


def pairs_of(lanes, starts):
    """The pairs of a unit, in order."""
    return [(i, j) for i in range(lanes if starts is not None else 1) for j in range(i + 1, lanes)]


def plain_meets(rule, one, other, stride, start):
    """Whether two lanes meet, as the definition tells it."""
    banks = banks_seen(rule, start, (one * stride, other * stride))
    return stride > 0 and banks[0] == banks[1]


def plain_clash(rule, lanes, stride, start):
    """The first two lanes that meet."""
    found = [(i, j) for i in range(lanes) for j in range(i + 1, lanes) if plain_meets(rule, i, j, stride, start)]
    return found[0] if found else None


def live(one):
    """For each state of a set whether some digits lead to a state that is in."""
    found = list(one.marks)
    while True:
        more = [found[at] or found[zero] or found[high] for at, (zero, high) in enumerate(one.nexts)]
        if more == found:
            return found
        found = more


def plain_table(rule, pair, strides, starts):
    """The rows of a table, by following all digits from the first row on."""
    weights = rule.ahead + rule.turn
    is_start, is_stride = live(starts), live(strides)
    rows = [(0,) * 7] if is_start[0] and is_stride[0] else []
    for number, carry, other_carry, bank, state, stride_state, seen in rows:
        for digit in (0, 1):
            for step in (0, 1):
                one, other = digit + pair[0] * step + carry, digit + pair[1] * step + other_carry
                moved = [bank, rule.added(bank, weights[number]), rule.less(bank, weights[number])][other % 2 - one % 2]
                end = (rule.next_class(number), one // 2, other // 2, moved, starts.nexts[state][digit],
                       strides.nexts[stride_state][step], max(seen, step))
                if is_start[end[4]] and is_stride[end[5]] and end not in rows:
                    rows.append(end)
    return tuple(sorted(rows))


def has_meeting(rows, strides, starts):
    """Whether a table tells that the lanes meet."""
    return any(row[1:4] == (0, 0, 0) and starts.marks[row[4]] and strides.marks[row[5]] and row[6] for row in rows)


class SetsTest(unittest.TestCase):
    def test_all_starts_of_rules_that_are_cut(self):
        rng = rng_of(80)
        for _ in range(12):
            rule, many = cut_rule(rng, rng.choice(FEW))
            for lanes in range(2, 17):
                free = free_strides(rule, lanes)
                for stride in list(range(24)) + [rng.randrange(10 ** 9)]:
                    wanted = all(plain_clash(rule, lanes, stride, start) is None for start in range(many))
                    self.assertIs(stride in free, wanted)
                    self.assertIs(is_free(rule, lanes, stride), wanted)
            one = rng.randrange(15)
            other = rng.randrange(one + 1, 16)
            found = meeting(rule, one, other)
            for stride in list(range(24)) + [rng.randrange(10 ** 9)]:
                wanted = any(plain_meets(rule, one, other, stride, start) for start in range(many))
                self.assertIs(stride in found, wanted)

    def test_sets_of_starts_of_rules_that_are_cut(self):
        rng = rng_of(81)
        for _ in range(40):
            rule, many = cut_rule(rng, rng.choice(FEW))
            starts = random_set(rng, 5)
            # What counts is what the starts leave by the round: all members up to here tell that.
            counted = sorted({start % many for start in listed(starts, 2 ** 12)})
            lanes = rng.randint(2, 5)
            free = free_strides(rule, lanes, starts)
            one = rng.randrange(6)
            other = rng.randrange(one + 1, 9)
            found = meeting(rule, one, other, starts)
            for stride in list(range(20)) + [rng.randrange(10 ** 9)]:
                wanted = all(plain_clash(rule, lanes, stride, start) is None for start in counted)
                self.assertIs(stride in free, wanted)
                self.assertIs(is_free(rule, lanes, stride, starts), wanted)
                wanted = any(plain_meets(rule, one, other, stride, start) for start in counted)
                self.assertIs(stride in found, wanted)

    def test_other_rules(self):
        rng = rng_of(82)
        for _ in range(60):
            rule = random_rule(rng, rng.choice(FEW), 3, 3)
            starts = rng.choice([None, random_set(rng, 4), NumberSet.of(rng.randrange(9)), NumberSet.multiples(4)])
            members = list(range(64)) if starts is None else listed(starts, 128)
            lanes = rng.randint(2, 4)
            free = free_strides(rule, lanes, starts)
            for stride in list(range(16)) + [rng.randrange(GREAT), GREAT]:
                answer = is_free(rule, lanes, stride, starts)
                paper = unit(rule, lanes, stride, starts)
                self.assertIs(stride in free, answer)
                self.assertIs(bool(paper), answer)
                if answer:
                    self.assertTrue(all(plain_clash(rule, lanes, stride, start) is None for start in members))
                else:
                    self.assertTrue(plain_meets(rule, paper.one, paper.other, stride, paper.start))
            pairs = [(i, j) for i in range(lanes) for j in range(i + 1, lanes)]
            joined = NumberSet.none()
            for i, j in pairs:
                joined = joined | meeting(rule, i, j, starts)
            self.assertEqual(joined, ~free)

    def test_modulo(self):
        for banks in (2, 3, 5, 8, 12, 27, 31, 32):
            rule = Rule.modulo(banks)
            for lanes in (2, 3, 7, 16):
                free = free_strides(rule, lanes)
                for stride in list(range(1, 70)) + [banks * 10 ** 28, banks * 10 ** 28 + 1]:
                    wanted = all(gap * stride % banks for gap in range(1, lanes))
                    self.assertIs(stride in free, wanted)
                    if stride < 20:
                        self.assertIs(is_free(rule, lanes, stride), wanted)
                        self.assertIs(is_free(rule, lanes, stride, NumberSet.multiples(4, 3)), wanted)
                self.assertIn(0, free)

    def test_distances_of_lanes(self):
        rng = rng_of(83)
        for _ in range(20):
            rule = random_rule(rng, rng.choice(FEW), 4, 3)
            every = distances(rule)
            self.assertEqual(meeting(rule, 0, 1), every)
            for one, other in ((0, 3), (4, 7), (12, 15)):
                self.assertEqual(meeting(rule, one, other), every.solved(3))
            self.assertEqual(meeting(rule, 0, 15), every.solved(15))
            free = NumberSet.every()
            for lanes in range(2, 6):
                free = free - every.solved(lanes - 1)
                self.assertEqual(free_strides(rule, lanes), free)

    def test_no_starts_and_all_starts(self):
        rng = rng_of(84)
        for rule in (Rule.modulo(4), Rule.xor(2), Rule((2,), (), (0,)), random_rule(rng)):
            for lanes in (2, 4, 16):
                self.assertEqual(free_strides(rule, lanes, NumberSet.none()), NumberSet.every())
                self.assertEqual(free_strides(rule, lanes, NumberSet.every()), free_strides(rule, lanes))
                self.assertIs(is_free(rule, lanes, 1, NumberSet.none()), True)
                self.assertIs(is_free(rule, lanes, GREAT, NumberSet.every()), is_free(rule, lanes, GREAT))
            self.assertEqual(meeting(rule, 3, 5, NumberSet.none()), NumberSet.none())
            self.assertEqual(meeting(rule, 3, 5, NumberSet.every()), meeting(rule, 3, 5))

    def test_more_lanes_than_banks(self):
        for rule in (Rule.modulo(3), Rule((2, 2), (1, 2), (3, 0)), Rule((2,), (), (1,))):
            for starts in (None, NumberSet.of(5), NumberSet.multiples(8), NumberSet.between(10 ** 20)):
                for lanes in (rule.banks + 1, 16):
                    self.assertEqual(free_strides(rule, lanes, starts), NumberSet.of(0))
                    self.assertIs(is_free(rule, lanes, 0, starts), True)
                    self.assertIs(is_free(rule, lanes, 10 ** 29, starts), False)

    def test_the_stride_zero(self):
        for rule in (Rule.modulo(4), Rule((2,), (), (0,))):
            for starts in (None, NumberSet.of(3), NumberSet.none(), NumberSet.every()):
                self.assertIs(is_free(rule, 16, 0, starts), True)
                self.assertTrue(isinstance(unit(rule, 16, 0, starts), Free))
                self.assertIn(0, free_strides(rule, 16, starts))
                self.assertNotIn(0, meeting(rule, 14, 15, starts))
            self.assertIsNone(first_clash(rule, 16, 0, 5))

    def test_limits(self):
        rule = Rule((4,), (1, 2, 1, 2), (0,))
        for starts in (None, NumberSet.multiples(4), NumberSet.of(6)):
            for work, values in ((meeting, (1, 3)), (free_strides, (4,))):
                many = work(rule, *values, starts).states
                self.assertGreater(many, 2)
                self.assertEqual(work(rule, *values, starts, many), work(rule, *values, starts))
                for limit in (1, many - 1):
                    error = (TooMany, {"what": "states", "most": limit})
                    self.assertEqual(told(work, rule, *values, starts, limit), error)
                    self.assertEqual(told(work, rule, *values, limit=limit, starts=starts), error)
        self.assertEqual(told(free_strides, Rule.modulo(2), 3, None, 1), (TooMany, {"what": "states", "most": 1}))
        self.assertEqual(told(free_strides, Rule.modulo(2), 3, NumberSet.none(), 1), "none")
        for work in (meeting, free_strides):
            self.assertEqual(inspect.signature(work).parameters["limit"].default, 2000)

    def test_by_name(self):
        rule, starts = Rule.padded(4, 2, 1), NumberSet.multiples(4)
        self.assertEqual(meeting(limit=50, starts=starts, other=2, one=1, rule=rule), meeting(rule, 1, 2, starts))
        self.assertEqual(free_strides(limit=50, starts=starts, lanes=3, rule=rule), free_strides(rule, 3, starts))
        self.assertIs(is_free(starts=starts, stride=1, lanes=4, rule=rule), True)
        self.assertEqual(first_clash(start=1, stride=1, lanes=4, rule=rule), (0, 3))
        self.assertEqual(unit(starts=starts, stride=1, lanes=4, rule=rule), unit(rule, 4, 1, starts))
        paper = every_free(starts=starts, strides=NumberSet.of(1), lanes=4, rule=rule)
        self.assertEqual(paper, unit(rule, 4, 1, starts))

    def test_small_rules_come_in_a_short_time(self):
        rng, begin = rng_of(85), time.perf_counter()
        for _ in range(60):
            rule = random_rule(rng, rng.choice(FEW), 4, 4)
            if rule.classes <= 6:
                for starts in (None, random_set(rng, 5), NumberSet.multiples(8, rng.randrange(8)), NumberSet.of(9, 30)):
                    told(free_strides, rule, 4, starts)
        self.assertLess(time.perf_counter() - begin, 40)


class SingleTest(unittest.TestCase):
    def test_first_clash(self):
        rng = rng_of(86)
        for _ in range(300):
            rule, lanes = random_rule(rng), rng.randint(2, 16)
            stride, start = [rng.randrange(2 ** rng.randint(1, 90)) for _ in range(2)]
            found = first_clash(rule, lanes, stride, start)
            self.assertTrue(same(found, plain_clash(rule, lanes, stride, start)))
        self.assertEqual(first_clash(Rule.modulo(2), 16, GREAT, GREAT), (0, 1))

    def test_great_strides(self):
        rng = rng_of(87)
        rules = [Rule.modulo(31), Rule.padded(32, 5, 7), Rule.xor(5, 4), Rule.modulo(25), Rule.padded(16, 4, 1)]
        for rule in rules:
            for starts in (None, NumberSet.multiples(16), NumberSet.of(7, 10 ** 30 + 5), random_set(rng, 5)):
                for stride in (GREAT, GREAT - 1, 2 ** 99, 25 * 10 ** 28, rng.randrange(GREAT)):
                    lanes = rng.choice((3, 9, 16))
                    answer = is_free(rule, lanes, stride, starts)
                    members = range(30) if starts is None else [at for at in range(200) if at in starts][:30]
                    if any(plain_clash(rule, lanes, stride, start) for start in members):
                        self.assertIs(answer, False)
                    if lanes == 3:
                        self.assertIs(bool(unit(rule, lanes, stride, starts)), answer)

    def test_carries_that_run_on(self):
        # The lanes 0 and 1 meet only at starts whose ones go on far beyond the stride.
        rule = Rule((31,), [2], [1] + [0] * 5)
        self.assertIs(is_free(rule, 2, 1), False)
        ones = 2 ** (1 + 6 * 28 + 1) - 1
        self.assertEqual(first_clash(rule, 2, 1, 3), None)
        self.assertEqual(rule(ones), rule(ones + 1))
        for starts, wanted in (
                (NumberSet.every(), False), (NumberSet.multiples(2), True), (NumberSet.multiples(4, 3), False),
                (NumberSet.between(0, 10 ** 40), True), (NumberSet.multiples(7), False)):
            self.assertIs(is_free(rule, 2, 1, starts), wanted)
            self.assertIs(bool(unit(rule, 2, 1, starts)), wanted)
            if starts.states < 5:
                self.assertIs(1 in free_strides(rule, 2, starts), wanted)

    def test_many_states_take_a_short_time(self):
        begin = time.perf_counter()
        rule = Rule.xor(5, 4)
        for starts in (NumberSet.multiples(499), NumberSet.multiples(500, 3), NumberSet.between(10 ** 30, 10 ** 40)):
            self.assertIs(is_free(rule, 16, GREAT - 1, starts), False)
        self.assertIs(is_free(Rule.modulo(32), 16, GREAT - 1, NumberSet.multiples(499)), True)
        self.assertLess(time.perf_counter() - begin, 60)

    def test_never_so_many_rows_for_all_starts(self):
        rng = rng_of(88)
        rules = [Rule.modulo(31), Rule((2,) * 5, [rng.randrange(32) for _ in range(23)], [1]),
                 Rule((32,), (), [rng.randrange(32) for _ in range(24)])]
        for rule in rules:
            for stride in (GREAT, 2 ** 99, 2 ** 99 - 1, 1):
                self.assertIs(bool(unit(rule, 16, stride)), is_free(rule, 16, stride))


class EveryTest(unittest.TestCase):
    def check(self, rule, lanes, strides, starts):
        """That a paper is right, against a plain look at the rows that come up; returns whether all are free."""
        paper = every_free(rule, lanes, strides, starts)
        counted = NumberSet.every() if starts is None else starts
        if isinstance(paper, Clash):
            self.assertIn(paper.stride, strides)
            self.assertIn(paper.start, counted)
            self.assertTrue(0 <= paper.one < paper.other < lanes)
            self.assertTrue(plain_meets(rule, paper.one, paper.other, paper.stride, paper.start))
            return False
        tables = tuple(plain_table(rule, pair, strides, counted) for pair in pairs_of(lanes, starts))
        self.assertTrue(isinstance(paper, Free) and same(paper.tables, tables))
        self.assertFalse(any(has_meeting(table, strides, counted) for table in tables))
        return True

    def test_tables_and_clashes(self):
        rng, seen = rng_of(89), []
        for _ in range(120):
            rule = random_rule(rng, rng.choice(FEW), 3, 2)
            starts = rng.choice([None, random_set(rng, 4), NumberSet.multiples(4), NumberSet.of(rng.randrange(20))])
            lanes = rng.randint(2, 3)
            strides = rng.choice([random_set(rng, 4), NumberSet.of(rng.randrange(9), rng.randrange(99))])
            free = free_strides(rule, lanes, starts)
            self.assertIs(self.check(rule, lanes, strides, starts), strides.within(free))
            if free.states <= 30:
                self.assertIs(self.check(rule, lanes, strides & free, starts), True)
            seen.append(strides.within(free))
        self.assertGreater(seen.count(True), 20)
        self.assertGreater(seen.count(False), 40)

    def test_units(self):
        rng = rng_of(90)
        for _ in range(60):
            rule = random_rule(rng, rng.choice(FEW), 3, 2)
            starts = rng.choice([None, random_set(rng, 4), NumberSet.multiples(4), NumberSet.of(rng.randrange(20))])
            for stride in (0, 1, 2, 3, 4, rng.randrange(10 ** 6)):
                paper = unit(rule, 3, stride, starts)
                self.assertEqual(paper, every_free(rule, 3, NumberSet.of(stride), starts))
                self.assertIs(self.check(rule, 3, NumberSet.of(stride), starts), is_free(rule, 3, stride, starts))
                if not paper:
                    self.assertEqual(paper.stride, stride)

    def test_rows_are_what_the_starts_leave_behind(self):
        # Each row of a table is what stands behind some digits of a start and a stride, told by sums of weights.
        rng = rng_of(91)
        rule, starts, strides = Rule((2, 2), (1, 2, 3), (2, 1)), NumberSet.multiples(3, 1), NumberSet.multiples(8, 2)
        tables = [plain_table(rule, pair, strides, starts) for pair in ((0, 1), (1, 2))]
        for _ in range(300):
            start, stride = rng.randrange(2 ** 12), rng.randrange(2 ** 12)
            for pair, table in zip(((0, 1), (1, 2)), tables):
                places = rng.randint(0, 12)
                state, stride_state = 0, 0
                for place in range(places):
                    state = starts.nexts[state][start >> place & 1]
                    stride_state = strides.nexts[stride_state][stride >> place & 1]
                row = (rule.class_of(places),) + plain_row(rule, pair, places, start, stride)
                row += (state, stride_state, int(stride % 2 ** places > 0))
                self.assertEqual(row in table, live(strides)[stride_state] and live(starts)[state])

    def test_no_stride_and_no_start(self):
        rule = Rule.modulo(4)
        for lanes in (2, 3, 16):
            self.assertEqual(every_free(rule, lanes, NumberSet.none()), Free(((),) * (lanes - 1)))
            many = lanes * (lanes - 1) // 2
            self.assertEqual(every_free(rule, lanes, NumberSet.every(), NumberSet.none()), Free(((),) * many))
            self.assertEqual(every_free(rule, lanes, NumberSet.none(), NumberSet.every()), Free(((),) * many))
            self.assertEqual(unit(rule, lanes, 4, NumberSet.none()), Free(((),) * many))

    def test_zero_alone(self):
        rule = Rule((2,), (1,), (0,))
        paper = every_free(rule, 3, NumberSet.of(0), NumberSet.every())
        rows = ((0, 0, 0, 0, 0, 0, 0), (1, 0, 0, 0, 0, 0, 0))
        self.assertEqual(paper, Free((rows, rows, rows)))
        self.assertTrue(isinstance(every_free(rule, 3, NumberSet.of(0, 1)), Clash))

    def test_too_many_rows(self):
        rule, starts = Rule.modulo(31), NumberSet.multiples(499)
        error = (TooMany, {"what": "rows", "most": 600000})
        self.assertIs(is_free(rule, 16, 2 ** 99, starts), True)
        self.assertEqual(told(unit, rule, 16, 2 ** 99, starts), error)

    def test_just_so_many_rows(self):
        rule, strides, starts = Rule.modulo(5), NumberSet.multiples(5, 2), NumberSet.multiples(4)
        paper = every_free(rule, 3, strides, starts)
        many = sum(len(table) for table in paper.tables)
        with mock.patch.object(lanebanks.units, "MOST_ROWS", many):
            self.assertEqual(every_free(rule, 3, strides, starts), paper)
        for most in (many - 1, len(paper.tables[0]), len(paper.tables[0]) - 1, 0):
            with mock.patch.object(lanebanks.units, "MOST_ROWS", most):
                self.assertIs(told(every_free, rule, 3, strides, starts)[0], TooMany)
        self.assertEqual(lanebanks.units.MOST_ROWS, 600000)


class ErrorsTest(unittest.TestCase):
    RULE, WRONG = Rule.modulo(4), ANY + [-1]

    def wrongs(self, test):
        return without(test, self.WRONG)

    def test_rule_comes_first(self):
        for value in self.wrongs(lambda value: isinstance(value, Rule)):
            for work, many in ((meeting, 2), (free_strides, 1), (is_free, 2), (first_clash, 3), (unit, 2), (every_free, 2)):
                self.assertEqual(told(work, value, *[None] * many), (BadRule, {"part": "rule"}))
                self.assertEqual(told(work, value, *[1] * many), (BadRule, {"part": "rule"}))

    def test_lanes_come_then(self):
        error = (BadUnit, {"part": "lanes"})
        for value in self.wrongs(lambda value: whole(value, 2, 16)) + [0, 1, 17]:
            self.assertEqual(told(free_strides, self.RULE, value, 7, None), error)
            self.assertEqual(told(is_free, self.RULE, value, -1, 7), error)
            self.assertEqual(told(first_clash, self.RULE, value, -1, -1), error)
            self.assertEqual(told(unit, self.RULE, value, -1, 7), error)
            self.assertEqual(told(every_free, self.RULE, value, 7, 7), error)
        for value in (2, 16):
            self.assertEqual(told(free_strides, self.RULE, value), "none")

    def test_one_and_other(self):
        for value in self.wrongs(lambda value: whole(value, 0, 14)) + [15, -1]:
            self.assertEqual(told(meeting, self.RULE, value, value, 7, 0), (BadUnit, {"part": "one"}))
        for one in (0, 3, 14):
            for value in self.wrongs(lambda value: whole(value, one + 1, 15)) + [one, 16]:
                self.assertEqual(told(meeting, self.RULE, one, value, 7, 0), (BadUnit, {"part": "other"}))
            self.assertEqual(told(meeting, self.RULE, one, one + 1), "none")
            self.assertEqual(told(meeting, self.RULE, one, 15), "none")

    def test_strides_and_starts(self):
        for value in self.wrongs(lambda value: whole(value, 0, GREAT)) + [GREAT + 1, -1]:
            error = (BadNumber, {"value": value})
            self.assertTrue(same(told(is_free, self.RULE, 3, value, 7), error))
            self.assertTrue(same(told(unit, self.RULE, 3, value, 7), error))
            self.assertTrue(same(told(first_clash, self.RULE, 3, value, -1), error))
            self.assertTrue(same(told(first_clash, self.RULE, 3, 1, value), error))
        for value in self.wrongs(lambda value: isinstance(value, NumberSet)):
            self.assertEqual(told(every_free, self.RULE, 3, value, 7), (BadUnit, {"part": "strides"}))
        for value in self.wrongs(lambda value: value is None or isinstance(value, NumberSet)):
            error = (BadUnit, {"part": "starts"})
            self.assertEqual(told(meeting, self.RULE, 0, 1, value, 0), error)
            self.assertEqual(told(free_strides, self.RULE, 3, value, 0), error)
            self.assertEqual(told(is_free, self.RULE, 3, 0, value), error)
            self.assertEqual(told(is_free, self.RULE, 3, 1, value), error)
            self.assertEqual(told(unit, self.RULE, 3, 1, value), error)
            self.assertEqual(told(every_free, self.RULE, 3, NumberSet.of(1), value), error)

    def test_limits(self):
        for value in self.wrongs(lambda value: whole(value, 1, 2000)) + [0, 2001]:
            error = (BadNumber, {"value": value})
            for starts in (None, NumberSet.none()):
                self.assertTrue(same(told(meeting, self.RULE, 0, 1, starts, value), error))
                self.assertTrue(same(told(free_strides, self.RULE, 2, starts, value), error))


if __name__ == "__main__":
    unittest.main()
