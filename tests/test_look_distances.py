"""The looker at the papers of distances."""

import time
import unittest

from helping import ANY, changed, random_rule, rng_of, same, told, whole, without
from lanebanks.distances import Meets, Never, distance
from lanebanks.errors import BadNumber, BadRule
from lanebanks.look_distances import shows_distance
from lanebanks.rules import Rule

GREAT = 10 ** 30
FRESH = [(), (0,), (0, 0), (1, 0), (0, 1), (1, 1), (0, 3), (2, 0), (0, 4), (-1, 0), (True, 0), (0, True), (0, "0"),
         (0, 0, 0), (1, 0, 1), (0, 1, 1), (True, 1, 1), (9, 0, 1), (0, 0, 0, 0), [0, 1], [0, 0, 1], 0, 1, None, "",
         ((0, 0),), ((0, 1), (1, 1)), ((0, 0, 1),), [(0, 0)], {0: 1}, Meets(0)]


def ends_of(rule, number, carry, bank, digit):
    """The carries and banks to which both digits of a start lead, the digit of the distance being told."""
    weight, ends = (rule.ahead + rule.turn)[number], []
    for start_digit in (0, 1):
        total = start_digit + digit + carry
        change = total % 2 - start_digit
        moved = [bank, rule.added(bank, weight), rule.less(bank, weight)][change]
        ends.append((total // 2, moved))
    return ends


def is_right_row(value, bounds):
    """Whether a value is a tuple of integers within bounds."""
    return type(value) is tuple and len(value) == len(bounds) and all(
        whole(part, 0, most) for part, most in zip(value, bounds))


def plain_shows(rule, d, value):
    """What the document says of a right paper, word by word."""
    if isinstance(value, Meets):
        return whole(value.start, 0, 10 ** 9999) and rule(value.start) == rule(value.start + d)
    if not isinstance(value, Never) or type(value.levels) is not tuple or type(value.back) is not tuple:
        return False
    levels, back = value.levels, value.back
    if len(levels) != d.bit_length() + 1 or any(type(level) is not tuple for level in levels):
        return False
    pairs = [pair for level in levels for pair in level]
    bounds = (rule.classes - 1, 1, rule.banks - 1)
    if not all(is_right_row(pair, bounds[1:]) for pair in pairs) or not all(is_right_row(row, bounds) for row in back):
        return False
    if len(pairs) + len(back) > 20000 or (0, 0) not in levels[0] or any(row[1:] == (0, 0) for row in back):
        return False
    for place in range(d.bit_length()):
        for pair in levels[place]:
            ends = ends_of(rule, rule.class_of(place), *pair, d >> place & 1)
            if any(end not in levels[place + 1] for end in ends):
                return False
    if any((rule.class_of(d.bit_length()),) + pair not in back for pair in levels[-1]):
        return False
    return all((rule.next_class(row[0]),) + end in back for row in back for end in ends_of(rule, *row, 0))


class RightTest(unittest.TestCase):
    def test_papers_of_distance(self):
        rng, seen = rng_of(70), set()
        rules = [random_rule(rng, None, 5, 4) for _ in range(60)] + [Rule.modulo(32), Rule.xor(5, 2), Rule.modulo(27)]
        for rule in rules:
            for d in list(range(1, 12)) + [rng.randrange(1, GREAT), GREAT, 2 ** 99]:
                paper = distance(rule, d)
                seen.add(type(paper))
                self.assertIs(shows_distance(rule, d, paper), True)
                self.assertIs(shows_distance(rule=rule, d=d, value=paper), True)
        self.assertEqual(seen, {Meets, Never})

    def test_any_order_and_doubled(self):
        rng = rng_of(71)
        for rule in (Rule.modulo(12), Rule.padded(8, 3, 1), Rule.modulo(4)):
            for d in (1, 2, 3, 5, 9, 22):
                paper = distance(rule, d)
                if not paper:
                    levels = tuple(tuple(rng.sample(level + level, 2 * len(level))) for level in paper.levels)
                    back = tuple(rng.sample(paper.back * 3, 3 * len(paper.back)))
                    self.assertIs(shows_distance(rule, d, Never(levels, back)), True)

    def test_more_than_needed(self):
        rule = Rule((4,), (1, 2, 1), (2,))
        every = tuple((carry, bank) for carry in (0, 1) for bank in range(4))
        for d in range(1, 40):
            paper = distance(rule, d)
            if paper:
                continue
            for place in range(1, len(paper.levels)):
                more = paper.levels[:place] + (every,) + paper.levels[place + 1:]
                wanted = plain_shows(rule, d, Never(more, paper.back))
                self.assertIs(shows_distance(rule, d, Never(more, paper.back)), wanted)
        # With a weight 0 in the round a bank stays as it is: rows of other banks are closed, too.
        rule, paper = Rule.modulo(4), distance(Rule.modulo(4), 2)
        more = Never(paper.levels, paper.back + ((2, 0, 1), (2, 1, 3), (2, 0, 3)))
        self.assertIs(shows_distance(rule, 2, more), True)
        self.assertIs(shows_distance(rule, 2, Never(paper.levels, paper.back + ((2, 0, 0),))), False)
        self.assertIs(shows_distance(rule, 2, Never(paper.levels, paper.back + ((1, 1, 3),))), False)

    def test_starts(self):
        rng = rng_of(72)
        for rule in (Rule.modulo(4), Rule.xor(2), Rule((4,), (1, 2, 1, 2), (0,)), Rule.modulo(27)):
            for d in (1, 2, 4, 27, GREAT):
                for start in list(range(20)) + [rng.randrange(10 ** 60), 3 ** 4000, 2 ** 20000 - 1]:
                    wanted = rule(start) == rule(start + d)
                    self.assertIs(shows_distance(rule, d, Meets(start)), wanted)
        for start in without(lambda value: whole(value, 0, 10 ** 99)) + [-1, -4]:
            self.assertIs(shows_distance(Rule((2,), (), (0,)), 3, Meets(start)), False)


class WrongTest(unittest.TestCase):
    def test_changed_papers(self):
        rng, right, wrong = rng_of(73), 0, 0
        rules = [Rule.modulo(4), Rule((4,), (1, 2, 1, 2), (0,)), Rule.modulo(3), Rule((2, 2), (1, 2), (0, 3))]
        for rule in rules:
            for d in (1, 2, 3, 5, 6, 11):
                paper = distance(rule, d)
                for _ in range(150):
                    levels, back = getattr(paper, "levels", ((0, 0),)), getattr(paper, "back", ())
                    for _ in range(rng.randint(1, 2)):
                        if rng.random() < 0.5:
                            levels = changed(levels, rng, FRESH)
                        else:
                            back = changed(back, rng, FRESH)
                    value = Never(levels, back)
                    wanted = plain_shows(rule, d, value)
                    right, wrong = right + wanted, wrong + (not wanted)
                    self.assertIs(shows_distance(rule, d, value), wanted, (str(rule), d, levels, back))
        self.assertGreater(right, 100)
        self.assertGreater(wrong, 1000)

    def test_each_row_is_needed(self):
        for rule in (Rule.modulo(12), Rule((4,), (1, 2, 1, 2), (0,)), Rule((2, 2), (1, 2, 3), (0, 1))):
            for d in range(1, 20):
                paper = distance(rule, d)
                if paper:
                    continue
                for at, level in enumerate(paper.levels):
                    for k in range(len(level)):
                        less = paper.levels[:at] + (level[:k] + level[k + 1:],) + paper.levels[at + 1:]
                        self.assertIs(shows_distance(rule, d, Never(less, paper.back)), False)
                for k in range(len(paper.back)):
                    less = Never(paper.levels, paper.back[:k] + paper.back[k + 1:])
                    self.assertIs(shows_distance(rule, d, less), False)
                self.assertIs(shows_distance(rule, d, Never(paper.levels + paper.levels[-1:], paper.back)), False)
                self.assertIs(shows_distance(rule, d, Never(paper.levels[:-1], paper.back)), False)

    def test_values_of_all_kinds(self):
        rule = Rule.modulo(4)
        paper = distance(rule, 2)
        for value in ANY:
            self.assertIs(shows_distance(rule, 2, value), False)
            self.assertIs(shows_distance(rule, 2, Never(value, paper.back)), False)
            self.assertIs(shows_distance(rule, 2, Never(paper.levels, value)), False)
            for at in range(3):
                levels = paper.levels[:at] + (value,) + paper.levels[at + 1:]
                self.assertIs(shows_distance(rule, 2, Never(levels, paper.back)), False)
                self.assertIs(shows_distance(rule, 2, Never(paper.levels + (value,), paper.back)), False)
                more = paper.levels[:at] + (paper.levels[at] + (value,),) + paper.levels[at + 1:]
                wanted = plain_shows(rule, 2, Never(more, paper.back))
                self.assertIs(shows_distance(rule, 2, Never(more, paper.back)), wanted)
            self.assertIs(shows_distance(rule, 2, Never(paper.levels, paper.back + (value,))), False)
            for row in ((value, 0, 2), (2, value, 2), (2, 0, value)):
                wanted = plain_shows(rule, 2, Never(paper.levels, paper.back + (row,)))
                self.assertIs(shows_distance(rule, 2, Never(paper.levels, paper.back + (row,))), wanted)
        for lists in (Never(list(paper.levels), paper.back), Never(paper.levels, list(paper.back)),
                      Never(paper.levels[:2] + (list(paper.levels[2]),), paper.back),
                      Never(paper.levels[:2] + (([0, 2], (1, 2)),), paper.back),
                      Never(paper.levels, ([2, 0, 2], (2, 1, 2))), Never(((False, 0),) + paper.levels[1:], paper.back),
                      Never((((False, 0),),) + paper.levels[1:], paper.back),
                      Never((((0, False),),) + paper.levels[1:], paper.back),
                      Never(paper.levels, ((2, False, 2), (2, 1, 2)))):
            self.assertIs(shows_distance(rule, 2, lists), False)

    def test_at_most_twenty_thousand_rows(self):
        rule = Rule.modulo(4)
        paper = distance(rule, 2)
        many = sum(len(level) for level in paper.levels)
        full = Never(paper.levels, paper.back * 10 ** 4)
        self.assertEqual(len(full.back), 20000)
        self.assertIs(shows_distance(rule, 2, full), False)
        self.assertIs(shows_distance(rule, 2, Never(paper.levels, full.back[:20000 - many])), True)
        self.assertIs(shows_distance(rule, 2, Never(paper.levels, full.back[:20001 - many])), False)
        levels = (paper.levels[0] * (20000 - many + 1 - len(paper.back)),) + paper.levels[1:]
        self.assertIs(shows_distance(rule, 2, Never(levels, paper.back)), True)
        self.assertIs(shows_distance(rule, 2, Never((levels[0] + ((0, 0),),) + levels[1:], paper.back)), False)

    def test_papers_of_any_size_take_a_short_time(self):
        begin = time.perf_counter()
        for rule, d in ((Rule.modulo(31), GREAT), (Rule((32,), (1, 2, 4, 8, 16, 7), (0,)), 2 ** 99 + 1)):
            paper = distance(rule, d)
            self.assertIs(shows_distance(rule, d, paper), True)
            self.assertIs(shows_distance(rule, d, Never(paper.levels, paper.back * 10 ** 5)), False)
        self.assertLess(time.perf_counter() - begin, 10)


class ErrorsTest(unittest.TestCase):
    def test_errors_in_order(self):
        for value in without(lambda value: isinstance(value, Rule)):
            for d in (1, 0, None):
                self.assertEqual(told(shows_distance, value, d, Meets(0)), (BadRule, {"part": "rule"}))
        for value in without(lambda value: whole(value, 1, GREAT)) + [0, -1, GREAT + 1]:
            self.assertTrue(same(told(shows_distance, Rule.modulo(4), value, None), (BadNumber, {"value": value})))
        self.assertEqual(told(shows_distance, Rule.modulo(4), GREAT, None), "none")


if __name__ == "__main__":
    unittest.main()
