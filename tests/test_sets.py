"""Digit sets: how they are made, their operators and solved."""

import unittest

from helping import ANY, listed, plain_member, random_set, random_table, rng_of, same, told, whole, without
from lanebanks.errors import BadNumber, BadSet, TooMany
from lanebanks.normal import normal_form
from lanebanks.sets import NumberSet

GREAT = 10 ** 40
FAR = [10 ** 20, 10 ** 40, 2 ** 131 - 1, 2 ** 200, 3 ** 300, 10 ** 40 + 7]


def counter(many):
    """The numbers whose number of digits 1 is a multiple of many: so many states."""
    return NumberSet([(at, (at + 1) % many) for at in range(many)], [at == 0 for at in range(many)])


class ClassTest(unittest.TestCase):
    def test_normal_form_is_kept(self):
        rng = rng_of(10)
        for _ in range(100):
            nexts, marks = random_table(rng, rng.randint(1, 9))
            for one in (NumberSet(nexts, marks), NumberSet(tuple(nexts), tuple(marks)),
                        NumberSet([list(ends) for ends in nexts], marks), NumberSet(marks=marks, nexts=nexts)):
                self.assertTrue(same((one.nexts, one.marks), normal_form(nexts, marks)))
                self.assertEqual(one.states, len(one.nexts))
            self.assertEqual(listed(one, 64), [number for number in range(64) if plain_member(nexts, marks, number)])

    def test_tables_changed_behind_it(self):
        nexts, marks = [[0, 1], [1, 1]], [True, False]
        one = NumberSet(nexts, marks)
        kept = str(one)
        self.assertEqual(kept, "0 1 + / 1 1 -")
        nexts[0][1] = 0
        nexts.append([0, 0])
        marks[1] = True
        marks.append(True)
        self.assertEqual(str(one), kept)
        self.assertNotIn(1, one)

    def test_most(self):
        self.assertTrue(same(NumberSet.MOST, 2000))
        self.assertTrue(same(NumberSet.none().MOST, 2000))
        self.assertEqual(counter(2000).states, 2000)
        nexts, marks = [(at, (at + 1) % 2001) for at in range(2001)], [True] * 2001
        self.assertEqual(told(NumberSet, nexts, marks), (BadSet, {"part": "nexts"}))
        self.assertEqual(NumberSet([(0, 0)] * 2000, [True] * 2000), NumberSet.every())

    def test_bad_nexts(self):
        wrong = ANY + [[(0,)], [(0, 0, 0)], [(0, 1)], [(0, -1)], [(0, True)], [(False, 0)], [(0, None)], [0], [None],
                       ["00"], [{0: 0, 1: 0}], {0: (0, 0)}, [(0, 0), (2, 0)], [(0, 0), (0, 2)], [(1, 0), (0, -1)],
                       [(0, "0")], [(0, (0,))], [(0, 10 ** 40)], [(0, 0), ()],
                       [(-1, 0)], [(1, 0)], [(True, 0)], [(None, 0)], [("0", 0)], [(0, 0), (-2, 0)],
                       (x for x in ()), "00"]
        for nexts in wrong:
            for marks in [[True], (True, True), None]:
                self.assertEqual(told(NumberSet, nexts, marks), (BadSet, {"part": "nexts"}), repr(nexts)[:60])

    def test_bad_marks(self):
        for marks in ANY + [[1], [0], [None], [True, False], {0: True}, "T", [[True]], ((True,),), [True, 1]]:
            self.assertEqual(told(NumberSet, [(0, 0)], marks), (BadSet, {"part": "marks"}), repr(marks)[:60])
        for marks in ([True], [True, 1], [True] * 3, [0, False], (True, None)):
            self.assertEqual(told(NumberSet, [(0, 1), (1, 1)], marks), (BadSet, {"part": "marks"}))

    def test_bad_zeros(self):
        self.assertEqual(told(NumberSet, [(1, 0), (1, 1)], [True, False]), (BadSet, {"part": "zeros"}))
        self.assertEqual(told(NumberSet, [(1, 0), (0, 1)], [False, True]), (BadSet, {"part": "zeros"}))
        # Also at a state that is never reached.
        self.assertEqual(told(NumberSet, [(0, 0), (0, 0)], [True, False]), (BadSet, {"part": "zeros"}))
        self.assertEqual(told(NumberSet, [(0, 0), (2, 0), (2, 2)], [True, False, True]), (BadSet, {"part": "zeros"}))

    def test_the_first_error_is_raised(self):
        self.assertEqual(told(NumberSet, [(0, 2), (1, 0)], [1, 2, 3]), (BadSet, {"part": "nexts"}))
        self.assertEqual(told(NumberSet, [(1, 0), (0, 0)], [True, 0]), (BadSet, {"part": "marks"}))

    def test_equality(self):
        evens = NumberSet.multiples(2)
        self.assertTrue(evens == NumberSet([(1, 2), (3, 3), (2, 2), (1, 1)], [True, True, False, True]))
        self.assertFalse(evens != NumberSet.multiples(2))
        self.assertTrue(evens != NumberSet.multiples(2, 1))
        self.assertTrue(NumberSet.every() != NumberSet.none())
        for value in ANY + ["0 0 -", ((0, 0),)]:
            if not isinstance(value, NumberSet):
                self.assertIs(NumberSet.none() == value, False)
                self.assertIs(NumberSet.none() != value, True)
        rng = rng_of(11)
        for _ in range(200):
            one, other = random_set(rng, 3), random_set(rng, 3)
            self.assertIs(one == other, listed(one, 128) == listed(other, 128))


class MemberTest(unittest.TestCase):
    def test_members_near_and_far(self):
        rng = rng_of(12)
        for _ in range(60):
            one = random_set(rng)
            for number in list(range(70)) + FAR:
                self.assertIs(number in one, plain_member(one.nexts, one.marks, number))

    def test_numbers_of_any_size(self):
        sevens = NumberSet.multiples(7)
        self.assertIn(7 * 10 ** 5000, sevens)
        self.assertNotIn(7 * 10 ** 5000 + 1, sevens)
        self.assertIn(1 << 300000, ~sevens)

    def test_any_values(self):
        for value in without(lambda value: whole(value, 0, 10 ** 50)) + [-5, [0], (0,), "0", 0.0]:
            self.assertIs(value in NumberSet.every(), False, repr(value)[:40])
        self.assertIs(0 in NumberSet.every(), True)
        self.assertIs(0 in NumberSet.none(), False)


class MakersTest(unittest.TestCase):
    def test_none_and_every(self):
        self.assertEqual(listed(NumberSet.none(), 50), [])
        self.assertEqual(listed(NumberSet.every(), 50), list(range(50)))

    def test_of(self):
        rng = rng_of(13)
        self.assertEqual(NumberSet.of(), NumberSet.none())
        for _ in range(80):
            numbers = [rng.choice([rng.randrange(4), rng.randrange(40), rng.randrange(GREAT + 1), GREAT])
                       for _ in range(rng.randint(0, 8))]
            one = NumberSet.of(*numbers)
            self.assertEqual(listed(one, 64), sorted({number for number in numbers if number < 64}))
            self.assertEqual(list(one.members()), sorted(set(numbers)))
            self.assertEqual(NumberSet.none().of(*numbers[::-1] + numbers), one)
        self.assertIn(GREAT, NumberSet.of(GREAT))
        self.assertNotIn(GREAT, NumberSet.of(GREAT - 1, GREAT - 2 ** 132))

    def test_of_raises_for_the_first_wrong_one(self):
        wrong = without(lambda value: whole(value, 0, GREAT)) + [GREAT + 1, -1]
        for value in wrong:
            self.assertTrue(same(told(NumberSet.of, value), (BadNumber, {"value": value})))
            self.assertTrue(same(told(NumberSet.of, 3, 4, value, -7, None), (BadNumber, {"value": value})))
            self.assertTrue(same(told(NumberSet.of, *range(10 ** 4), value), (BadNumber, {"value": value})))

    def test_of_at_the_bound(self):
        # Sixteen numbers that part at their first four digits; each digit less of one takes a state away.
        rng = rng_of(14)
        rests = [rng.randrange(2 ** 127, 2 ** 128) for _ in range(16)]
        counts = []
        while not counts or counts[-1] > 1998:
            numbers = [low + 16 * rest for low, rest in enumerate(rests)]
            counts.append(len(tree_form(numbers)))
            if counts[-1] > 2000:
                self.assertEqual(told(NumberSet.of, *numbers), (TooMany, {"what": "states", "most": 2000}))
            else:
                self.assertEqual(NumberSet.of(*numbers).states, counts[-1])
            rests[counts[-1] % 16] //= 2
        self.assertEqual(counts, list(range(counts[0], 1997, -1)))
        self.assertGreater(counts[0], 2001)

    def test_many_numbers_with_few_states(self):
        self.assertEqual(NumberSet.of(*range(4096)), NumberSet.between(0, 4096))

    def test_between(self):
        for low in range(0, 20):
            self.assertEqual(listed(NumberSet.between(low), 80), list(range(low, 80)))
            self.assertEqual(NumberSet.between(low, None), NumberSet.between(low))
            for high in range(0, 20):
                one = NumberSet.between(low, high)
                self.assertEqual(listed(one, 80), list(range(low, high)))
                self.assertEqual(one, NumberSet.between(low=low, high=high))
        self.assertEqual(NumberSet.between(5, 5), NumberSet.none())
        self.assertEqual(NumberSet.between(9, 5), NumberSet.none())

    def test_between_far(self):
        rng = rng_of(16)
        bounds = [0, 1, 2 ** 64 - 1, 2 ** 64, 2 ** 64 + 1, GREAT - 1, GREAT] + [rng.randrange(GREAT) for _ in range(6)]
        for low in bounds:
            for high in bounds + [None]:
                one = NumberSet.between(low, high)
                for edge in bounds + [0, 2 ** 140]:
                    for number in (max(0, edge - 1), edge, edge + 1):
                        self.assertIs(number in one, low <= number and (high is None or number < high))

    def test_between_errors(self):
        wrong = without(lambda value: whole(value, 0, GREAT)) + [GREAT + 1]
        for value in wrong:
            self.assertTrue(same(told(NumberSet.between, value), (BadNumber, {"value": value})))
            self.assertTrue(same(told(NumberSet.between, value, -8), (BadNumber, {"value": value})))
            if value is not None:
                self.assertTrue(same(told(NumberSet.between, 5, value), (BadNumber, {"value": value})))
                self.assertTrue(same(told(NumberSet.between, 0, high=value), (BadNumber, {"value": value})))

    def test_multiples(self):
        for step in list(range(1, 40)) + [64, 96, 255, 256, 257, 384, 499, 500]:
            for rest in {0, 1 % step, step // 2, step - 1, step // 3}:
                one = NumberSet.multiples(step, rest)
                self.assertEqual(listed(one, 600), list(range(rest, 600, step)))
                self.assertIn(step * 10 ** 60 + rest, one)
                self.assertEqual(NumberSet.multiples(step=step, rest=rest), one)
            self.assertEqual(NumberSet.multiples(step), NumberSet.multiples(step, 0))

    def test_multiples_errors(self):
        for value in without(lambda value: whole(value, 1, 500)) + [0, 501, -3]:
            self.assertTrue(same(told(NumberSet.multiples, value), (BadNumber, {"value": value})))
            self.assertTrue(same(told(NumberSet.multiples, value, None), (BadNumber, {"value": value})))
        for step in (1, 2, 3, 500):
            for value in without(lambda value: whole(value, 0, step - 1)) + [step, -1]:
                self.assertTrue(same(told(NumberSet.multiples, step, value), (BadNumber, {"value": value})))


class OperatorsTest(unittest.TestCase):
    def check(self, one, other):
        kept = str(one), str(other)
        results = {"or": one | other, "and": one & other, "less": one - other, "just": one ^ other, "not": ~one}
        for number in list(range(100)) + FAR:
            a, b = plain_member(one.nexts, one.marks, number), plain_member(other.nexts, other.marks, number)
            wanted = {"or": a or b, "and": a and b, "less": a and not b, "just": a != b, "not": not a}
            for name, result in results.items():
                self.assertIs(number in result, wanted[name], (name, number))
        self.assertEqual(one.within(other), (one - other) == NumberSet.none())
        self.assertIs(type(one.within(other)), bool)
        self.assertEqual((str(one), str(other)), kept)

    def test_against_plain_listings(self):
        rng = rng_of(17)
        for _ in range(120):
            self.check(random_set(rng), random_set(rng))
        for _ in range(10):
            low, high = sorted([rng.randrange(GREAT), rng.randrange(GREAT)])
            self.check(NumberSet.between(low, high), NumberSet.multiples(rng.randint(1, 7)))

    def test_within(self):
        self.assertIs(NumberSet.multiples(6).within(NumberSet.multiples(3)), True)
        self.assertIs(NumberSet.multiples(3).within(NumberSet.multiples(6)), False)
        self.assertIs(NumberSet.none().within(NumberSet.none()), True)
        self.assertIs(NumberSet.of(GREAT).within(other=NumberSet.between(GREAT)), True)
        self.assertIs(NumberSet.between(3).within(NumberSet.between(4)), False)

    def test_marks_are_bools(self):
        rng = rng_of(18)
        for _ in range(30):
            one, other = random_set(rng), random_set(rng)
            for result in (one | other, one & other, one - other, one ^ other, ~one, one.solved(3, 1)):
                self.assertTrue(all(type(mark) is bool for mark in result.marks))

    def test_wrong_others(self):
        one = NumberSet.multiples(3)
        for value in ANY:
            if not isinstance(value, NumberSet):
                wanted = (BadSet, {"part": "other"})
                self.assertEqual(told(lambda: one | value), wanted)
                self.assertEqual(told(lambda: one & value), wanted)
                self.assertEqual(told(lambda: one - value), wanted)
                self.assertEqual(told(lambda: one ^ value), wanted)
                self.assertEqual(told(one.within, value), wanted)

    def check_too_many(self, one, other, is_too_many):
        wanted = (TooMany, {"what": "states", "most": 2000}) if is_too_many else "none"
        for a, b in ((one, other), (other, one)):
            self.assertEqual(told(lambda: a | b), wanted)
            self.assertEqual(told(lambda: a & b), wanted)
            self.assertEqual(told(lambda: a - b), wanted)
            self.assertEqual(told(lambda: a ^ b), wanted)
            self.assertEqual(told(a.within, b), wanted)

    def test_too_many_pairs(self):
        one = counter(2000)
        self.check_too_many(one, NumberSet.every(), False)
        self.check_too_many(one, one, False)
        # The number 0 adds one pair: that of the first state of both.
        self.check_too_many(one, NumberSet.of(0), True)
        self.check_too_many(counter(1999), NumberSet.of(0), False)
        self.check_too_many(NumberSet.multiples(41), NumberSet.multiples(47), False)
        self.check_too_many(NumberSet.multiples(43), NumberSet.multiples(47), True)
        # Only pairs that are reached count.
        self.check_too_many(counter(1000), counter(500), False)

    def test_too_many_leaves_all_as_it_was(self):
        one, other = NumberSet.multiples(43), NumberSet.multiples(47)
        kept = str(one), str(other)
        told(lambda: one | other)
        self.assertEqual((str(one), str(other)), kept)


class SolvedTest(unittest.TestCase):
    def test_against_a_plain_listing(self):
        rng = rng_of(19)
        for times in range(1, 65):
            for plus in {-64, -1, 0, 1, 64, rng.randint(-64, 64), -times, times}:
                one = random_set(rng, 4)
                answer = one.solved(times, plus)
                for number in list(range(70)) + FAR:
                    total = times * number + plus
                    wanted = total >= 0 and plain_member(one.nexts, one.marks, total)
                    self.assertIs(number in answer, wanted, (times, plus, number))

    def test_all_of_plus(self):
        for plus in range(-64, 65):
            one = NumberSet.of(0, 1, 9, 63, 64, 65, 130)
            wanted = [number for number in range(140) if 2 * number + plus in (0, 1, 9, 63, 64, 65, 130)]
            self.assertEqual(list(one.solved(2, plus).members()), wanted)

    def test_by_name_and_without_plus(self):
        one = NumberSet.multiples(9)
        self.assertEqual(one.solved(3), NumberSet.multiples(3))
        self.assertEqual(one.solved(times=3, plus=3), one.solved(3, 3))
        self.assertEqual(one.solved(3, 3), NumberSet.multiples(3, 2))
        self.assertEqual(NumberSet.every().solved(1, -10), NumberSet.between(10))
        self.assertEqual(NumberSet.every().solved(64, -64), NumberSet.between(1))

    def test_errors(self):
        one = NumberSet.every()
        for value in without(lambda value: whole(value, 1, 64)) + [0, 65, -1]:
            self.assertTrue(same(told(one.solved, value), (BadNumber, {"value": value})))
            self.assertTrue(same(told(one.solved, value, 99), (BadNumber, {"value": value})))
        for value in without(lambda value: whole(value, -64, 64)) + [-65, 65]:
            self.assertTrue(same(told(one.solved, 1, value), (BadNumber, {"value": value})))
            self.assertTrue(same(told(counter(2000).solved, 3, plus=value), (BadNumber, {"value": value})))

    def test_too_many(self):
        wanted = (TooMany, {"what": "states", "most": 2000})
        self.assertEqual(counter(2000).solved(1), counter(2000))
        self.assertEqual(told(counter(2000).solved, 1, 1), wanted)
        self.assertEqual(told(counter(1000).solved, 3), wanted)
        self.assertEqual(told(counter(1000).solved, 2), "none")
        # The carry 1 comes with the first state alone, the carry 0 with all: at 1,999 states 2,000 pairs.
        self.assertEqual(told(counter(1999).solved, 1, 1), "none")


def tree_form(numbers):
    """The states of the set of these numbers: the unlike sets of what may still come."""
    kinds, level = set(), {tuple(sorted(set(numbers)))}
    while level:
        kinds |= level
        level = {tuple(number // 2 for number in numbers if number % 2 == digit)
                 for numbers in level for digit in (0, 1)} - kinds
    return kinds


if __name__ == "__main__":
    unittest.main()
