"""The looker at the papers of two rules compared."""

import inspect
import unittest

from helping import ANY, changed, random_set, rng_of, same, told, whole, without
from lanebanks.compared import Freer, Less, Parted, Same, Split, Told, freer, same_banks, tells
from lanebanks.errors import BadNumber, BadRule, BadUnit, TooMany
from lanebanks.look_compared import shows_freer, shows_same, shows_tells
from lanebanks.look_units import shows_unit
from lanebanks.rules import Rule
from lanebanks.sets import NumberSet
from lanebanks.units import Free, free_strides, is_free
from test_compared import banks_of, rules_to_compare
from test_look_units import FRESH

PLAIN, PAD, TWO = Rule((4,), (1, 2), (0,)), Rule((4,), (1, 2, 1, 2), (0,)), Rule((2,), (1,), (0,))


def is_split(one, other, first, second):
    """Whether two addresses are in one bank by the one and in unlike ones by the other."""
    mine, others = banks_of(one, (first, second)), banks_of(other, (first, second))
    return mine[0] == mine[1] and others[0] != others[1]


def pairs_to_try(rng):
    """Pairs of addresses, of any size, in any order, some equal."""
    near = [(rng.randrange(9), rng.randrange(40)) for _ in range(30)]
    far = [(rng.randrange(2 ** 300), rng.randrange(2 ** 200)) for _ in range(8)]
    return near + far + [(b, a) for a, b in near[:5] + far] + [(-1, 3), (-4, 0), (5, 5), (2 ** 400, 2 ** 400)]


class BanksTest(unittest.TestCase):
    def test_right_papers(self):
        seen = []
        for one, other in rules_to_compare(rng_of(170), 300):
            for work, look in ((tells, shows_tells), (same_banks, shows_same)):
                paper = work(one, other)
                seen.append((work, bool(paper)))
                self.assertIs(look(one, other, paper), True)
                self.assertIs(look(value=paper, other=other, one=one), True)
        self.assertEqual(len(set(seen)), 4)

    def test_any_two_addresses(self):
        rng, seen = rng_of(171), []
        for one, other in rules_to_compare(rng, 150):
            for first, second in pairs_to_try(rng):
                right = 0 <= first < second
                wanted = right and is_split(one, other, first, second)
                parted = wanted or right and is_split(other, one, first, second)
                seen.append((wanted, parted))
                self.assertIs(shows_tells(one, other, Split(first, second)), wanted)
                self.assertIs(shows_same(one, other, Parted(first, second)), parted)
        self.assertTrue(min(seen.count(kind) for kind in ((True, True), (False, True), (False, False))) > 100)

    def test_names_changed(self):
        rng = rng_of(172)
        for one, other in rules_to_compare(rng, 200):
            for work, look, kind in ((tells, shows_tells, Told), (same_banks, shows_same, Same)):
                paper = work(one, other)
                names = paper.names if paper else {bank: 0 for bank in range(one.banks)}
                for value in self.others(rng, names):
                    self.assertIs(look(one, other, kind(value)), bool(paper) and same_names(value, paper.names), value)

    def others(self, rng, names):
        """Dicts that are the names but for something, and the names in another order."""
        keys = list(names)
        key = rng.choice(keys)
        yield dict(names)
        yield dict(reversed(list(names.items())))
        yield {k: names[k] for k in keys if k != key}
        for fresh in (-1, len(keys), 99, 0, 1, None, "0", True, (0,)):
            yield {**names, fresh: 0}
            yield {**names, fresh: names[key]}
            yield {**names, key: fresh}
            yield {fresh if k == key else k: names[k] for k in keys}
        other = rng.choice(keys)
        yield {**names, key: names[other], other: names[key]}
        yield {}
        yield list(names.items())
        yield tuple(names.items())

    def test_kinds_of_names(self):
        # Python finds True for 1, so these dicts are equal to the right ones.
        for names in ({0: 0, True: 1, 2: 0, 3: 1}, {0: 0, 1: True, 2: 0, 3: 1}, {0: False, 1: 1, 2: 0, 3: 1}):
            self.assertEqual(names, tells(PLAIN, TWO).names)
            self.assertIs(shows_tells(PLAIN, TWO, Told(names)), False)
        for names in ({False: 0, 1: 1}, {0: 0, 1: True}):
            self.assertEqual(names, same_banks(TWO, TWO).names)
            self.assertIs(shows_same(TWO, TWO, Same(names)), False)

    def test_papers_of_other_classes(self):
        self.assertIs(shows_tells(TWO, TWO, Same({0: 0, 1: 1})), False)
        self.assertIs(shows_same(TWO, TWO, Told({0: 0, 1: 1})), False)
        self.assertIs(shows_tells(TWO, PLAIN, Parted(0, 2)), False)
        self.assertIs(shows_same(TWO, PLAIN, Split(0, 2)), False)
        # What tells need not be the same.
        self.assertIs(shows_same(PLAIN, TWO, Same(tells(PLAIN, TWO).names)), False)
        self.assertIs(shows_tells(PLAIN, TWO, Told(tells(PLAIN, TWO).names)), True)

    def test_values_of_all_kinds(self):
        for value in ANY:
            for one, other in ((TWO, PLAIN), (PLAIN, TWO), (TWO, TWO)):
                for look, papers in ((shows_tells, (Told, Split)), (shows_same, (Same, Parted))):
                    if not isinstance(value, (Told, Parted)):
                        self.assertIs(look(one, other, value), False)
                    self.assertIs(look(one, other, papers[0](value)), False)
                    for first, second in ((value, 2), (2, value)):
                        right = type(first) is int and type(second) is int and 0 <= first < second
                        wanted = right and is_split(one, other, first, second)
                        if right and look is shows_same:
                            wanted = wanted or is_split(other, one, first, second)
                        self.assertIs(look(one, other, papers[1](first, second)), wanted)

    def test_errors_in_order(self):
        for value in without(lambda value: isinstance(value, Rule)):
            for look in (shows_tells, shows_same):
                self.assertEqual(told(look, value, value, value), (BadRule, {"part": "one"}))
                self.assertEqual(told(look, PAD, value, value), (BadRule, {"part": "other"}))


def same_names(one, other):
    """Whether values are dicts with the same keys and values, of integers."""
    return type(one) is dict and all(type(k) is int and type(v) is int for k, v in one.items()) and one == other


class StridesTest(unittest.TestCase):
    def rules(self, rng, many):
        """Small rules by which some strides are free, lanes and starts."""
        rules = [PLAIN, PAD, TWO, -PAD, PAD.cut(3), TWO << 1, Rule.xor(2, 1), Rule.xor(2, 2)]
        rules = rules + [Rule.modulo(banks) for banks in (2, 3, 4, 5)]
        for _ in range(many):
            starts = rng.choice([None, None, random_set(rng, 3), NumberSet.multiples(4), NumberSet.none()])
            yield rng.choice(rules), rng.choice(rules), rng.randint(2, 4), starts

    def test_right_papers(self):
        seen = []
        for one, other, lanes, starts in self.rules(rng_of(173), 120):
            paper = freer(one, other, lanes, starts)
            seen.append(bool(paper))
            self.assertIs(shows_freer(one, other, lanes, paper, starts), True)
            self.assertIs(shows_freer(limit=2000, starts=starts, value=paper, lanes=lanes, other=other, one=one), True)
        self.assertGreater(min(seen.count(True), seen.count(False)), 15)

    def test_any_strides(self):
        rng, seen = rng_of(174), []
        for one, other, lanes, starts in self.rules(rng, 80):
            for stride in list(range(-2, 40)) + [rng.randrange(10 ** 30) for _ in range(4)]:
                wanted = stride >= 0 and is_free(other, lanes, stride, starts) and not is_free(one, lanes, stride, starts)
                seen.append(wanted)
                self.assertIs(shows_freer(one, other, lanes, Less(stride), starts), wanted)
        self.assertGreater(min(seen.count(True), seen.count(False)), 200)

    def test_strides_of_any_size(self):
        self.assertIs(shows_freer(PLAIN, PAD, 4, Less(4)), True)
        odd = 2 ** 5000 + 1
        # By four banks odd strides are free, by the parity of all digits none but 0.
        four, parity = Rule.modulo(4), Rule((2,), (), (1,))
        self.assertIs(shows_freer(parity, four, 4, Less(odd)), True)
        self.assertIs(shows_freer(parity, four, 4, Less(odd + 1)), False)
        self.assertIs(shows_freer(four, parity, 4, Less(odd)), False)
        self.assertIs(shows_freer(parity, four, 4, Less(0)), False)

    def test_tables_changed(self):
        rng, seen = rng_of(175), []
        for one, other, lanes, starts in self.rules(rng, 120):
            paper = freer(one, other, lanes, starts)
            strides = free_strides(other, lanes, starts)
            tables = paper.tables if paper else (((0,) * 7,),) * (lanes - 1)
            for _ in range(8):
                value = changed(tables, rng, FRESH)
                wanted = shows_unit(one, lanes, strides, Free(value), starts)
                seen.append(wanted)
                self.assertIs(shows_freer(one, other, lanes, Freer(strides, value), starts), wanted)
            if paper:
                turned = tuple(table[::-1] + table for table in tables)
                self.assertIs(shows_freer(one, other, lanes, Freer(strides, turned), starts), True)
                for at, table in enumerate(tables):
                    left_out = tables[:at] + tables[at + 1:]
                    self.assertIs(shows_freer(one, other, lanes, Freer(strides, left_out), starts), False)
                    if table:
                        k = rng.randrange(len(table))
                        less = tables[:at] + (table[:k] + table[k + 1:],) + tables[at + 1:]
                        self.assertIs(shows_freer(one, other, lanes, Freer(strides, less), starts), False)
            else:
                self.assertIs(shows_freer(one, other, lanes, Freer(strides, tables), starts), False)
        self.assertGreater(min(seen.count(True), seen.count(False)), 50)

    def test_other_strides(self):
        # Fewer strides are free as well, but they are not all.
        paper = freer(PLAIN, TWO, 2)
        self.assertIs(shows_freer(PLAIN, TWO, 2, paper), True)
        for strides in (paper.strides - NumberSet.of(1), NumberSet.of(0), NumberSet.every(), NumberSet.none()):
            self.assertIs(shows_freer(PLAIN, TWO, 2, Freer(strides, paper.tables)), False)
        # Without any stride there are no rows, but these are not the free ones.
        self.assertIs(shows_freer(PLAIN, TWO, 2, Freer(NumberSet.none(), ((),))), False)
        self.assertIs(shows_freer(PLAIN, TWO, 2, freer(PLAIN, TWO, 2, NumberSet.multiples(4)), NumberSet.multiples(4)), True)
        self.assertIs(shows_freer(PLAIN, TWO, 2, freer(PLAIN, TWO, 2, NumberSet.multiples(4))), False)

    def test_values_of_all_kinds(self):
        tables, strides = freer(PLAIN, TWO, 2).tables, freer(PLAIN, TWO, 2).strides
        for value in ANY:
            self.assertIs(shows_freer(PLAIN, TWO, 2, value), False)
            self.assertIs(shows_freer(PLAIN, TWO, 2, Freer(value, tables)), False)
            self.assertIs(shows_freer(PLAIN, TWO, 2, Freer(strides, value)), False)
            self.assertIs(shows_freer(PLAIN, TWO, 2, Less(value)), False)
            wanted = type(value) is int and value > 0 and value % 2 == 0 and value % 4 != 0
            self.assertIs(shows_freer(TWO, PLAIN, 2, Less(value)), wanted)
            self.assertIs(shows_freer(PLAIN, TWO, 2, Free(value)), False)
        self.assertIs(shows_freer(PLAIN, TWO, 2, Freer(strides, list(tables))), False)

    def test_errors_in_order(self):
        for value in without(lambda value: isinstance(value, Rule)):
            self.assertEqual(told(shows_freer, value, value, 0, 0, 0, 0), (BadRule, {"part": "one"}))
            self.assertEqual(told(shows_freer, PAD, value, 0, 0, 0, 0), (BadRule, {"part": "other"}))
        for value in without(lambda value: whole(value, 2, 16)) + [17]:
            self.assertEqual(told(shows_freer, PAD, PAD, value, 0, 0, 0), (BadUnit, {"part": "lanes"}))
        for value in without(lambda value: value is None or isinstance(value, NumberSet)):
            self.assertEqual(told(shows_freer, PAD, PAD, 2, 0, value, 0), (BadUnit, {"part": "starts"}))
        for value in without(lambda value: whole(value, 1, 2000), ANY + [0, 2001]):
            self.assertTrue(same(told(shows_freer, PAD, PAD, 2, 0, None, value), (BadNumber, {"value": value})))

    def test_limits(self):
        one, other = Rule.modulo(31), Rule.padded(8, 3, 1)
        few, most = sorted(free_strides(rule, 4).states for rule in (one, other))
        self.assertLess(few, most)
        for first, second in ((one, other), (other, one)):
            for value in (Less(1), freer(first, second, 4), None):
                self.assertEqual(told(shows_freer, first, second, 4, value, None, most), "none")
                # One of both rules alone goes beyond, whichever stands first.
                for limit in (few - 1, few, most - 1):
                    error = (TooMany, {"what": "states", "most": limit})
                    self.assertEqual(told(shows_freer, first, second, 4, value, None, limit), error)
        self.assertEqual(inspect.signature(shows_freer).parameters["limit"].default, 2000)


if __name__ == "__main__":
    unittest.main()
