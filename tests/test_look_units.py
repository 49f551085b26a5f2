"""The looker at the papers of units."""

import time
import unittest

from helping import ANY, banks_seen, changed, random_rule, random_set, rng_of, told, whole, without
from lanebanks.errors import BadRule, BadUnit
from lanebanks.look_units import shows_unit
from lanebanks.rules import Rule
from lanebanks.sets import NumberSet
from lanebanks.units import Clash, Free, every_free, free_strides, is_free, unit
from test_units import GREAT, has_meeting, live, pairs_of

FRESH = [(), (0,) * 7, (1,) * 7, (0, 0, 1, 0, 0, 0, 1), (0, 0, 0, 1, 0, 1, 1), (1, 0, 0, 2, 0, 1, 1), (0, 0, 0, 0, 0, 0, 1),
         (0, 1, 0, 0, 0, 0, 0), (0, 0, 0, 9, 0, 0, 0), (0, 0, 0, 0, 0, 0, 2), (0,) * 6, (0,) * 8, [0] * 7, (False,) * 7,
         (0, 0, 0, 0, 0, 0, True), 0, 1, None, "", ((0,) * 7,), ((),), Free(())]


def plain_shows(rule, lanes, strides, value, starts):
    """What the document says of a Free, word by word."""
    counted = NumberSet.every() if starts is None else starts
    pairs = pairs_of(lanes, starts)
    if not isinstance(value, Free) or type(value.tables) is not tuple or len(value.tables) != len(pairs):
        return False
    if any(type(table) is not tuple for table in value.tables) or sum(map(len, value.tables)) > 600000:
        return False
    return all(plain_table_shows(rule, pair, table, strides, counted) for pair, table in zip(pairs, value.tables))


def plain_table_shows(rule, pair, table, strides, starts):
    """Whether a table is closed but for rows with a dead state, within bounds, and without a meeting."""
    bounds = (rule.classes - 1, *pair, rule.banks - 1, starts.states - 1, strides.states - 1, 1)
    for row in table:
        if type(row) is not tuple or len(row) != 7 or not all(whole(part, 0, most) for part, most in zip(row, bounds)):
            return False
    is_start, is_stride, rows = live(starts), live(strides), set(table)
    if has_meeting(table, strides, starts) or (is_start[0] and is_stride[0] and (0,) * 7 not in rows):
        return False
    for number, carry, other_carry, bank, state, stride_state, seen in table:
        weight = (rule.ahead + rule.turn)[number]
        for digit in (0, 1):
            for step in (0, 1):
                one, other = digit + pair[0] * step + carry, digit + pair[1] * step + other_carry
                moved = [bank, rule.added(bank, weight), rule.less(bank, weight)][other % 2 - one % 2]
                end = (rule.next_class(number), one // 2, other // 2, moved, starts.nexts[state][digit],
                       strides.nexts[stride_state][step], max(seen, step))
                if is_start[end[4]] and is_stride[end[5]] and end not in rows:
                    return False
    return True


def units_to_try(rng, many):
    """Rules, lanes, strides and starts of few states; half of the strides are all free."""
    for _ in range(many):
        rule = random_rule(rng, rng.choice([(2,), (3,), (4,), (2, 2)]), 3, 2)
        starts = rng.choice([None, random_set(rng, 4), NumberSet.multiples(4), NumberSet.of(rng.randrange(20))])
        lanes = rng.randint(2, 4)
        strides = rng.choice([random_set(rng, 4), NumberSet.of(rng.randrange(9), rng.randrange(99))])
        free = free_strides(rule, lanes, starts)
        if rng.random() < 0.5 and free.states < 30:
            strides = strides & free
        yield rule, lanes, strides, starts


class RightTest(unittest.TestCase):
    def test_papers_of_every_free(self):
        seen = []
        for rule, lanes, strides, starts in units_to_try(rng_of(100), 200):
            paper = every_free(rule, lanes, strides, starts)
            seen.append(bool(paper))
            self.assertIs(shows_unit(rule, lanes, strides, paper, starts), True)
            self.assertIs(shows_unit(starts=starts, value=paper, strides=strides, lanes=lanes, rule=rule), True)
        self.assertGreater(seen.count(True), 50)
        self.assertGreater(seen.count(False), 30)

    def test_papers_of_great_strides(self):
        rng = rng_of(101)
        for rule in (Rule.modulo(31), Rule.padded(32, 5, 7), Rule.xor(5, 4)):
            for starts in (None, NumberSet.multiples(16), NumberSet.of(7, GREAT)):
                for stride in (GREAT, 2 ** 99, rng.randrange(GREAT)):
                    paper = unit(rule, 9, stride, starts)
                    self.assertIs(shows_unit(rule, 9, NumberSet.of(stride), paper, starts), True)

    def test_any_order_and_doubled(self):
        rng = rng_of(102)
        for rule, lanes, strides, starts in units_to_try(rng, 100):
            paper = every_free(rule, lanes, strides, starts)
            if paper:
                tables = tuple(tuple(rng.sample(table * 2, 2 * len(table))) for table in paper.tables)
                self.assertIs(shows_unit(rule, lanes, strides, Free(tables), starts), True)

    def test_rows_with_a_dead_state(self):
        rule, strides, starts = Rule.modulo(4), NumberSet.of(1), NumberSet.of(2)
        paper = every_free(rule, 3, strides, starts)
        stride_state, state = live(strides).index(False), live(starts).index(False)
        for row in ((0, 0, 0, 0, 0, stride_state, 0), (2, 0, 0, 3, 0, stride_state, 1), (1, 0, 0, 0, state, 0, 1),
                    (0, 0, 0, 0, state, stride_state, 0)):
            more = Free((paper.tables[0] + (row,),) + paper.tables[1:])
            self.assertIs(shows_unit(rule, 3, strides, more, starts), True)
        none = Free(((), (), ()))
        self.assertIs(shows_unit(rule, 3, NumberSet.none(), none, starts), True)
        self.assertIs(shows_unit(rule, 3, strides, none, NumberSet.none()), True)
        self.assertIs(shows_unit(rule, 3, strides, none, starts), False)
        first = Free((((0,) * 7,), (), ((0,) * 7,)))
        self.assertIs(shows_unit(rule, 3, NumberSet.none(), first, starts), True)
        self.assertIs(shows_unit(rule, 3, NumberSet.none(), Free((((0,) * 7,), ())), None), True)

    def test_clashes_right_and_wrong(self):
        rng, seen = rng_of(103), []
        for _ in range(600):
            rule = random_rule(rng, rng.choice([(2,), (3,), (2, 2)]), 3, 2)
            starts = rng.choice([None, random_set(rng, 4), NumberSet.multiples(4)])
            strides, lanes = random_set(rng, 4), rng.randint(2, 16)
            if rng.random() < 0.5:
                strides = strides | NumberSet.between(1)
            stride, start = [rng.choice([rng.randrange(6), rng.randrange(2 ** 500)]) for _ in range(2)]
            one, other = rng.randrange(-1, 9), rng.randrange(0, 17)
            banks = banks_seen(rule, start, (max(one, 0) * stride, other * stride))
            wanted = (0 <= one < other < lanes and stride > 0 and stride in strides
                      and (starts is None or start in starts) and banks[0] == banks[1])
            seen.append(wanted)
            self.assertIs(shows_unit(rule, lanes, strides, Clash(stride, start, one, other), starts), wanted)
        self.assertGreater(seen.count(True), 15)

    def test_clashes_of_any_size(self):
        rule, start, stride = Rule((2,), (), (0,)), 2 ** 30000 - 1, 3 ** 9000
        self.assertIs(shows_unit(rule, 2, NumberSet.every(), Clash(stride, start, 0, 1)), True)
        self.assertIs(shows_unit(rule, 2, NumberSet.none(), Clash(stride, start, 0, 1)), False)
        self.assertIs(shows_unit(rule, 2, NumberSet.every(), Clash(stride, start, 0, 1), NumberSet.none()), False)
        rule = Rule.modulo(3)
        self.assertIs(shows_unit(rule, 2, NumberSet.every(), Clash(stride, start, 0, 1)), True)
        self.assertIs(shows_unit(rule, 3, NumberSet.every(), Clash(stride + 1, start, 0, 2)), False)
        self.assertIs(shows_unit(rule, 2, NumberSet.multiples(2), Clash(stride, start, 0, 1)), False)
        self.assertIs(shows_unit(rule, 2, NumberSet.every(), Clash(stride, start, 0, 1), NumberSet.multiples(2)), False)


class WrongTest(unittest.TestCase):
    def test_changed_papers(self):
        rng, seen = rng_of(104), []
        for rule, lanes, strides, starts in units_to_try(rng, 250):
            paper = every_free(rule, lanes, strides, starts)
            tables = getattr(paper, "tables", tuple((((0,) * 7,),) * len(pairs_of(lanes, starts))))
            for _ in range(12):
                value = tables
                for _ in range(rng.randint(1, 2)):
                    value = changed(value, rng, FRESH + list(tables[0]))
                wanted = plain_shows(rule, lanes, strides, Free(value), starts)
                seen.append(wanted)
                self.assertIs(shows_unit(rule, lanes, strides, Free(value), starts), wanted)
        self.assertGreater(seen.count(True), 150)
        self.assertGreater(seen.count(False), 1000)

    def test_each_row_is_needed(self):
        for rule, lanes, strides, starts in units_to_try(rng_of(105), 60):
            paper = every_free(rule, lanes, strides, starts)
            for at, table in enumerate(paper.tables if paper else ()):
                for k in range(len(table)):
                    less = paper.tables[:at] + (table[:k] + table[k + 1:],) + paper.tables[at + 1:]
                    self.assertIs(shows_unit(rule, lanes, strides, Free(less), starts), False)
                for tables in (paper.tables[:at] + paper.tables[at + 1:], paper.tables + (table,)):
                    self.assertIs(shows_unit(rule, lanes, strides, Free(tables), starts), False)

    def test_tables_of_other_pairs_and_sets(self):
        rule, strides, starts = Rule((4,), (1, 2, 1, 2), (0,)), NumberSet.of(1), NumberSet.multiples(4)
        paper = every_free(rule, 4, strides, starts)
        self.assertIs(shows_unit(rule, 4, strides, paper, starts), True)
        self.assertIs(shows_unit(rule, 4, strides, paper), False)
        self.assertIs(shows_unit(rule, 4, strides, Free(paper.tables[:3])), False)
        self.assertIs(shows_unit(rule, 4, strides, Free(paper.tables[::-1]), starts), False)
        self.assertIs(shows_unit(rule, 4, NumberSet.of(2), paper, starts), False)
        self.assertIs(shows_unit(rule, 4, strides, paper, NumberSet.multiples(4, 1)), False)
        self.assertIs(shows_unit(rule, 5, strides, paper, starts), False)
        self.assertIs(shows_unit(Rule.modulo(4), 4, strides, paper, starts), False)

    def test_bounds_of_parts(self):
        # A row with a dead state need not be followed, so only the bounds of its parts count.
        rule, strides, starts = Rule.modulo(4), NumberSet.of(1), NumberSet.of(2)
        paper = every_free(rule, 3, strides, starts)
        dead = (0, 0, 0, 0, 0, live(strides).index(False), 0)
        for part, most in enumerate((2, 1, 2, 3, starts.states - 1, strides.states - 1, 1)):
            for value in [-1, most + 1, True, None, "0"] + (list(range(most + 1)) if part != 5 else []):
                row = dead[:part] + (value,) + dead[part + 1:]
                more = Free(paper.tables[:2] + (paper.tables[2] + (row,),))
                wanted = type(value) is int and 0 <= value <= most
                self.assertIs(shows_unit(rule, 3, strides, more, starts), wanted)
        paper = every_free(rule, 2, strides)
        self.assertIs(shows_unit(rule, 2, strides, Free((paper.tables[0] + (dead,),))), True)
        beyond = dead[:4] + (1,) + dead[5:]
        self.assertIs(shows_unit(rule, 2, strides, Free((paper.tables[0] + (beyond,),))), False)

    def test_values_of_all_kinds(self):
        rule, strides = Rule.modulo(4), NumberSet.of(1)
        paper = unit(rule, 3, 1)
        self.assertIs(shows_unit(rule, 3, strides, paper), True)
        for value in ANY:
            self.assertIs(shows_unit(rule, 3, strides, value), False)
            self.assertIs(shows_unit(rule, 3, strides, Free(value)), False)
            self.assertIs(shows_unit(rule, 3, strides, Free((value, paper.tables[1]))), False)
            self.assertIs(shows_unit(rule, 3, strides, Free((paper.tables[0] + (value,), paper.tables[1]))), False)
            clash = Clash(2, 1, 0, 2)
            self.assertIs(shows_unit(rule, 3, NumberSet.every(), clash), True)
            for at, name in enumerate(("stride", "start", "one", "other")):
                parts = [2, 1, 0, 2]
                parts[at] = value
                wanted = type(value) is int and value >= 0 and (value > 0 and value % 2 == 0, True, value == 0, value == 2)[at]
                self.assertIs(shows_unit(rule, 3, NumberSet.every(), Clash(*parts)), wanted, (name, value))
        for lists in (Free(list(paper.tables)), Free((list(paper.tables[0]), paper.tables[1])),
                      Free((tuple(list(row) for row in paper.tables[0]), paper.tables[1])),
                      Free((((False,) + (0,) * 6,) + paper.tables[0][1:], paper.tables[1]))):
            self.assertIs(shows_unit(rule, 3, strides, lists), False)

    def test_at_most_so_many_rows(self):
        begin = time.perf_counter()
        rule, strides = Rule.modulo(4), NumberSet.of(1)
        tables = unit(rule, 3, 1).tables
        full = tables[0][:1] * (600000 - len(tables[0]) - len(tables[1])) + tables[0]
        self.assertIs(shows_unit(rule, 3, strides, Free((full, tables[1]))), True)
        self.assertIs(shows_unit(rule, 3, strides, Free((full[:1] + full, tables[1]))), False)
        self.assertIs(shows_unit(rule, 3, strides, Free((full, tables[1] * 2))), False)
        self.assertLess(time.perf_counter() - begin, 30)


class ErrorsTest(unittest.TestCase):
    def test_errors_in_order(self):
        rule, value = Rule.modulo(4), Free(())
        for wrong in without(lambda other: isinstance(other, Rule)):
            self.assertEqual(told(shows_unit, wrong, 1, None, value, 5), (BadRule, {"part": "rule"}))
        for wrong in without(lambda other: whole(other, 2, 16)) + [17, 1]:
            self.assertEqual(told(shows_unit, rule, wrong, None, value, 5), (BadUnit, {"part": "lanes"}))
        for wrong in without(lambda other: isinstance(other, NumberSet)):
            self.assertEqual(told(shows_unit, rule, 2, wrong, value, 5), (BadUnit, {"part": "strides"}))
        for wrong in without(lambda other: other is None or isinstance(other, NumberSet)):
            self.assertEqual(told(shows_unit, rule, 2, NumberSet.of(1), value, wrong), (BadUnit, {"part": "starts"}))
        self.assertIs(is_free(rule, 2, 1), True)


if __name__ == "__main__":
    unittest.main()
