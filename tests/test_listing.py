"""Members of digit sets: least, greatest, next_from, count, members, items, words."""

import time
import unittest

from helping import ANY, listed, random_set, random_table, rng_of, same, told, whole, without
from lanebanks.errors import BadNumber, BadSet, NoMember, TooMany
from lanebanks.members import words_to
from lanebanks.sets import NumberSet

GREAT = 10 ** 40
BIG = 4096


def first(many, walk):
    """The first ones of a walk."""
    found = []
    for member in walk:
        found.append(member)
        if len(found) == many:
            break
    return found


def powers(step=1):
    """The numbers 2 ** (step * k): a digit 1 at each step-th place, and none else."""
    nexts = [((at + 1) % step, step if at == 0 else step + 1) for at in range(step)]
    return NumberSet(nexts + [(step, step + 1), (step + 1, step + 1)], [False] * step + [True, False])


def alone(place):
    """Just the number 2 ** place, of a place of any size."""
    nexts = [(at + 1, place + 2) for at in range(place)] + [(place + 2, place + 1), (place + 1, place + 2)]
    return NumberSet(nexts + [(place + 2, place + 2)], [False] * (place + 1) + [True, False])


def sets_of_all_kinds():
    """Random sets of few states, finite ones and sparse ones."""
    rng = rng_of(20)
    sets = [random_set(rng, most) for most in (1, 2, 3, 4, 5, 6, 8) for _ in range(12)]
    sets += [one & NumberSet.between(rng.randrange(9), rng.randrange(600)) for one in sets[:40]]
    sets += [NumberSet.none(), NumberSet.every(), NumberSet.of(0), NumberSet.of(5), NumberSet.of(0, 1, 2047, 4000)]
    sets += [powers(), powers(3), powers(2) | NumberSet.of(0), NumberSet.between(1000), NumberSet.multiples(97, 5)]
    return sets + [~one for one in sets[-12:]]


class EndsTest(unittest.TestCase):
    def test_least_greatest_is_endless(self):
        for one in sets_of_all_kinds():
            found = listed(one, BIG)
            # Eight states that come to no member above 2,047 come to none at all.
            endless = any(number >= BIG // 2 for number in listed(one - NumberSet.of(2047, 4000), 2 * BIG))
            if one.is_endless:
                self.assertTrue(endless)
                self.assertIs(one.greatest, None)
            else:
                self.assertFalse(endless)
                self.assertTrue(same(one.greatest, max(found, default=None)))
            self.assertIs(type(one.is_endless), bool)
            self.assertTrue(same(one.least, min(found, default=None)))

    def test_far_ends(self):
        one = NumberSet.of(GREAT, 7)
        self.assertEqual((one.least, one.greatest, one.is_endless), (7, GREAT, False))
        one = NumberSet.between(GREAT)
        self.assertEqual((one.least, one.greatest, one.is_endless), (GREAT, None, True))
        for place in (0, 1, 2, 500, 1997):
            one = alone(place)
            self.assertEqual((one.least, one.greatest, one.is_endless), (2 ** place, 2 ** place, False))
            self.assertEqual(((~one).least, (~one).greatest, (~one).is_endless), (0, None, True))
        self.assertEqual((NumberSet.none().least, NumberSet.none().greatest, NumberSet.none().is_endless),
                         (None, None, False))
        self.assertEqual((NumberSet.of(0).least, NumberSet.of(0).greatest, NumberSet.of(0).is_endless), (0, 0, False))

    def test_greatest_of_many(self):
        rng = rng_of(21)
        for _ in range(40):
            numbers = [rng.randrange(2 ** rng.randint(1, 130)) for _ in range(rng.randint(1, 9))]
            one = NumberSet.of(*numbers)
            self.assertEqual((one.least, one.greatest, one[len(set(numbers)) - 1]),
                             (min(numbers), max(numbers), max(numbers)))
            high = max(numbers)
            self.assertEqual((NumberSet.between(0, high) - one).greatest,
                             max((n for n in range(max(0, high - 20), high) if n not in numbers), default=None))


class WalkTest(unittest.TestCase):
    def test_members_from_near_begins(self):
        for one in sets_of_all_kinds():
            found = listed(one, BIG)
            for begin in (0, 1, 2, 3, 7, 8, 63, 64, 65, 100, 511, 2047, 2048, 4000):
                wanted = [number for number in found if number >= begin][:250]
                got = first(len(wanted), one.members(begin)) if wanted else []
                self.assertEqual(got, wanted)
            if not one.is_endless:
                self.assertEqual(list(one.members()), found)
                self.assertEqual(list(one.members(begin=100)), [number for number in found if number >= 100])
                self.assertEqual(list(one.members(10 ** 30)), [])

    def test_next_from(self):
        for one in sets_of_all_kinds():
            found = listed(one, BIG)
            for number in list(range(80)) + [511, 512, 2000, 2047, 2048]:
                later = [member for member in found if member >= number]
                if later or not one.is_endless:
                    self.assertTrue(same(one.next_from(number), later[0] if later else None))
            self.assertEqual(one.next_from(number=0), one.least)

    def test_next_from_far(self):
        rng = rng_of(22)
        for _ in range(40):
            number, step = rng.randrange(GREAT), rng.randint(1, 500)
            rest = rng.randrange(step)
            self.assertEqual(NumberSet.multiples(step, rest).next_from(number), number + (rest - number) % step)
        self.assertEqual(powers().next_from(GREAT), 2 ** 133)
        self.assertEqual(powers(7).next_from(10 ** 20), 2 ** 70)
        self.assertEqual(alone(1990).next_from(GREAT), 2 ** 1990)
        self.assertEqual(NumberSet.of(GREAT).next_from(GREAT), GREAT)
        self.assertIs(NumberSet.of(GREAT - 1).next_from(GREAT), None)
        self.assertIs(NumberSet.none().next_from(0), None)

    def test_members_far(self):
        begin = 10 ** 39
        self.assertEqual(first(4, NumberSet.multiples(10, 3).members(begin)), [begin + at for at in (3, 13, 23, 33)])
        self.assertEqual(first(3, NumberSet.between(GREAT).members(GREAT)), [GREAT, GREAT + 1, GREAT + 2])
        self.assertEqual(first(5, powers().members(GREAT)), [2 ** at for at in range(133, 138)])
        self.assertEqual(first(3, powers(400).members(2)), [2 ** 400, 2 ** 800, 2 ** 1200])
        self.assertEqual(list(alone(1990).members()), [2 ** 1990])
        low = 10 ** 39 + 5
        self.assertEqual(list(NumberSet.between(low, low + 50).members(low + 48)), [low + 48, low + 49])

    def test_members_that_few_choices_lead_to(self):
        nexts = [(at, (at + 1) % 60) for at in range(60)]
        one = NumberSet(nexts, [at == 0 for at in range(60)])
        self.assertEqual(first(3, one.members()), [0, 2 ** 60 - 1, 2 ** 61 - 1 - 2 ** 59])
        self.assertEqual(first(2, one.members(2 ** 45 + 5)), [2 ** 60 - 1, 2 ** 61 - 1 - 2 ** 59])
        third = 2 ** 61 - 1 - 2 ** 59
        self.assertEqual([one.next_from(2 ** 60), one[2], one.count(2 ** 61)], [third, third, 62])

    def test_two_walks_at_a_time(self):
        threes = NumberSet.multiples(3)
        one, other = threes.members(), threes.members(100)
        self.assertEqual([next(one), next(other), next(one), next(other), next(one), next(other)],
                         [0, 102, 3, 105, 6, 108])
        third = threes.members()
        self.assertEqual([next(third), next(one), next(third)], [0, 9, 3])
        self.assertEqual([(a, b) for a in NumberSet.of(1, 2).members() for b in NumberSet.of(1, 2).members()],
                         [(1, 1), (1, 2), (2, 1), (2, 2)])

    def test_a_walk_is_a_generator(self):
        walk = NumberSet.of(3, 4).members()
        self.assertIs(iter(walk), walk)
        self.assertEqual([next(walk), next(walk), next(walk, "end"), next(walk, "end")], [3, 4, "end", "end"])

    def test_members_come_one_by_one(self):
        begin = time.perf_counter()
        self.assertEqual(first(20000, NumberSet.every().members()), list(range(20000)))
        self.assertEqual(first(3000, NumberSet.multiples(499).members()), list(range(0, 3000 * 499, 499)))
        nexts, marks = random_table(rng_of(23), 2000)
        one = NumberSet(nexts, marks)
        found = first(300, one.members(10 ** 30))
        self.assertEqual(found, [number for number in range(10 ** 30, found[-1] + 1) if number in one])
        self.assertLess(time.perf_counter() - begin, 30)

    def test_wrong_begins(self):
        one = NumberSet.every()
        for value in without(lambda value: whole(value, 0, GREAT)) + [GREAT + 1, -1]:
            wanted = (BadNumber, {"value": value})
            self.assertTrue(same(told(one.next_from, value), wanted))
            self.assertTrue(same(told(one.count, value), wanted))
            self.assertTrue(same(told(lambda: next(one.members(value))), wanted))
            self.assertTrue(same(told(lambda: next(NumberSet.none().members(value), None)), wanted))

    def test_a_set_is_not_iterated(self):
        for one in (NumberSet.of(1, 2), NumberSet.none(), NumberSet.every()):
            for work in (iter, list, tuple, sorted, sum, lambda value: [x for x in value], lambda value: [*value]):
                with self.assertRaises(TypeError):
                    work(one)


class CountTest(unittest.TestCase):
    def test_count_near(self):
        for one in sets_of_all_kinds():
            found = listed(one, 300)
            for below in list(range(40)) + [63, 64, 65, 127, 128, 129, 200, 255, 256, 257, 300]:
                self.assertTrue(same(one.count(below), len([number for number in found if number < below])))
            self.assertEqual(one.count(below=0), 0)

    def test_count_far(self):
        rng = rng_of(24)
        for _ in range(60):
            below, step = rng.randrange(GREAT + 1), rng.randint(1, 500)
            rest = rng.randrange(step)
            one = NumberSet.multiples(step, rest)
            self.assertEqual(one.count(below), (below - rest + step - 1) // step)
            self.assertEqual((~one).count(below), below - one.count(below))
        self.assertEqual(NumberSet.every().count(GREAT), GREAT)
        self.assertEqual(powers().count(GREAT), 133)
        self.assertEqual(NumberSet.of(1, GREAT).count(GREAT), 1)
        self.assertEqual(NumberSet.between(5, 10 ** 30).count(GREAT), 10 ** 30 - 5)
        self.assertEqual(NumberSet.of(0).count(1), 1)


class ItemTest(unittest.TestCase):
    def test_near_items(self):
        for one in sets_of_all_kinds():
            found = listed(one, BIG)
            for at in list(range(min(len(found), 40))) + list(range(0, len(found), 97)):
                self.assertTrue(same(one[at], found[at]))
            if not one.is_endless:
                for at in (len(found), len(found) + 1, 10 ** 50):
                    self.assertTrue(same(told(lambda: one[at]), (NoMember, {"at": at})))

    def test_far_items(self):
        rng = rng_of(25)
        for _ in range(40):
            at, step = rng.randrange(10 ** rng.randint(1, 290)), rng.randint(1, 500)
            self.assertEqual(NumberSet.multiples(step, step // 2)[at], at * step + step // 2)
        self.assertEqual(powers()[999], 2 ** 999)
        self.assertEqual(NumberSet.between(10 ** 35)[10 ** 200], 10 ** 200 + 10 ** 35)
        self.assertEqual(NumberSet.every()[2 ** 1000 - 1], 2 ** 1000 - 1)
        self.assertEqual(powers(1)[0], 1)

    def test_too_many_digits(self):
        wanted = (TooMany, {"what": "digits", "most": 1000})
        self.assertEqual(told(lambda: NumberSet.every()[2 ** 1000]), wanted)
        self.assertEqual(told(lambda: NumberSet.every()[10 ** 4000]), wanted)
        self.assertEqual(told(lambda: powers()[1000]), wanted)
        self.assertEqual(told(lambda: powers(500)[2]), wanted)
        self.assertEqual(powers(500)[1], 2 ** 500)
        self.assertEqual(told(lambda: powers(999)[1]), "none")
        self.assertEqual(told(lambda: powers(1000)[1]), wanted)
        self.assertEqual(told(lambda: alone(1000)[0]), wanted)
        self.assertEqual(alone(999)[0], 2 ** 999)
        self.assertEqual(told(lambda: alone(1000)[1]), (NoMember, {"at": 1}))
        self.assertEqual(told(lambda: alone(1990)[2 ** 2000]), (NoMember, {"at": 2 ** 2000}))
        self.assertEqual(told(lambda: (alone(1500) | NumberSet.of(4))[1]), wanted)
        self.assertEqual((alone(1500) | NumberSet.of(4))[0], 4)

    def test_wrong_indexes(self):
        for one in (NumberSet.every(), NumberSet.none(), NumberSet.of(4)):
            for value in without(lambda value: whole(value, 0, 10 ** 50)) + [-1, -10 ** 40]:
                self.assertTrue(same(told(lambda: one[value]), (NoMember, {"at": value})))
        self.assertEqual(told(lambda: NumberSet.none()[0]), (NoMember, {"at": 0}))


class WordsTest(unittest.TestCase):
    def test_words(self):
        rng = rng_of(26)
        sets = sets_of_all_kinds() + [NumberSet(*random_table(rng, 40)) for _ in range(10)]
        for one in sets + [NumberSet.multiples(37), NumberSet.of(9, 200)]:
            words, digits, wanted = {}, 0, []
            while len(words) < one.states:
                for number in range(2 ** digits):
                    state = 0
                    for place in range(digits):
                        state = one.nexts[state][number >> place & 1]
                    words.setdefault(state, number)
                digits += 1
            wanted = tuple(words[state] for state in range(one.states))
            self.assertTrue(same(words_to(one), wanted))
            self.assertTrue(same(words_to(number_set=one), wanted))

    def test_far_words(self):
        self.assertEqual(words_to(alone(300)), (0, 0, 1) + (0,) * 299 + (2 ** 300,))

    def test_wrong_sets(self):
        for value in ANY + [((0, 0),), NumberSet]:
            if not isinstance(value, NumberSet):
                self.assertEqual(told(words_to, value), (BadSet, {"part": "number_set"}))


if __name__ == "__main__":
    unittest.main()
