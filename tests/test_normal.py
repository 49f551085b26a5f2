"""The normal form of tables."""

import copy
import time
import unittest

from helping import plain_member, random_table, rng_of, same
from lanebanks.normal import normal_form


def plain_form(nexts, marks):
    """The normal form as it is told: states are parted until nothing changes, then numbered as they are reached."""
    many = len(nexts)
    block = [int(mark) for mark in marks]
    while True:
        keys = [(block[at], block[nexts[at][0]], block[nexts[at][1]]) for at in range(many)]
        order = {key: number for number, key in enumerate(sorted(set(keys)))}
        fresh = [order[key] for key in keys]
        if len(set(fresh)) == len(set(block)):
            break
        block = fresh
    reached = [0]
    for state in reached:
        for end in nexts[state]:
            if block[end] not in [block[other] for other in reached]:
                reached.append(end)
    numbers = {block[state]: number for number, state in enumerate(reached)}
    table = tuple(tuple(numbers[block[end]] for end in nexts[state]) for state in reached)
    return table, tuple(marks[state] for state in reached)


def ring(many):
    """States that count the digits 1, which are all needed."""
    return [[state, (state + 1) % many] for state in range(many)], [state == 0 for state in range(many)]


class NormalFormTest(unittest.TestCase):
    def check(self, nexts, marks):
        kept = copy.deepcopy((nexts, marks))
        form = normal_form(nexts, marks)
        self.assertTrue(same(form, plain_form(nexts, marks)), (nexts, marks, form))
        self.assertTrue(same((nexts, marks), kept))
        return form

    def test_example(self):
        self.assertTrue(same(normal_form([(1, 0), (0, 1)], [True, True]), (((0, 0),), (True,))))

    def test_one_state(self):
        for mark in (True, False):
            for nexts in ([(0, 0)], [[0, 0]], ((0, 0),), ([0, 0],)):
                self.assertTrue(same(self.check(nexts, [mark]), (((0, 0),), (mark,))))
                self.assertTrue(same(self.check(nexts, (mark,)), (((0, 0),), (mark,))))

    def test_random_tables_of_all_kinds(self):
        rng = rng_of(1)
        for _ in range(400):
            nexts, marks = random_table(rng, rng.randint(1, 12))
            forms = [self.check(nexts, marks), self.check(tuple(nexts), tuple(marks)),
                     self.check([list(ends) for ends in nexts], marks),
                     self.check(tuple(list(ends) for ends in nexts), tuple(marks))]
            for form in forms:
                self.assertTrue(same(form, forms[0]))
            self.assertTrue(same(normal_form(*forms[0]), forms[0]))
            self.assertTrue(same(normal_form(nexts=nexts, marks=marks), forms[0]))
            for number in range(64):
                self.assertEqual(plain_member(*forms[0], number), plain_member(nexts, marks, number))

    def test_states_never_reached(self):
        nexts, marks = [(0, 0), (1, 2), (2, 1)], [True, False, False]
        self.assertTrue(same(self.check(nexts, marks), (((0, 0),), (True,))))
        nexts, marks = [(0, 3), (1, 2), (2, 1), (3, 0)], [True, False, False, False]
        self.assertTrue(same(self.check(nexts, marks), (((0, 1), (1, 0)), (True, False))))

    def test_states_that_are_alike(self):
        nexts, marks = [(2, 1), (3, 0), (0, 3), (1, 2)], [True, False, True, False]
        self.assertTrue(same(self.check(nexts, marks), (((0, 1), (1, 0)), (True, False))))

    def test_states_numbered_otherwise(self):
        rng = rng_of(2)
        for _ in range(150):
            many = rng.randint(2, 10)
            nexts, marks = random_table(rng, many)
            places = [0] + rng.sample(range(1, many), many - 1)
            back = [places.index(state) for state in range(many)]
            moved = [tuple(places[end] for end in nexts[back[state]]) for state in range(many)]
            other = [marks[back[state]] for state in range(many)]
            self.assertTrue(same(normal_form(nexts, marks), normal_form(moved, other)))

    def test_numbering_is_by_digits_then_state_then_digit(self):
        nexts = [(5, 3), (1, 1), (4, 1), (2, 6), (4, 4), (2, 4), (6, 2)]
        marks = [True, False, True, True, False, True, True]
        marks = [plain_mark(nexts, marks, state) for state in range(7)]
        form = self.check(nexts, marks)
        seen = [0]
        for ends in form[0]:
            for end in ends:
                if end not in seen:
                    self.assertEqual(end, len(seen))
                    seen.append(end)

    def test_tables_that_are_normal_already(self):
        for many in (2, 3, 7, 20):
            nexts, marks = ring(many)
            self.assertEqual(len(self.check(nexts, marks)[0]), many)

    def test_states_that_only_far_digits_part(self):
        for many in (5, 30):
            nexts = [(min(at + 1, many - 1), min(at + 1, many - 1)) for at in range(many)]
            self.assertEqual(len(self.check(nexts, [True] * many)[0]), 1)
            nexts = [(at, min(at + 1, many - 1)) for at in range(many)]
            marks = [at == many - 1 for at in range(many)]
            self.assertEqual(len(self.check(nexts, marks)[0]), many)

    def test_two_thousand_states_come_promptly(self):
        many = 2000
        begin = time.perf_counter()
        nexts, marks = ring(many)
        self.assertEqual(normal_form(nexts, marks), (tuple(tuple(ends) for ends in nexts), tuple(marks)))
        nexts = tuple((at, min(at + 1, many - 1)) for at in range(many))
        marks = tuple(at == many - 1 for at in range(many))
        self.assertEqual(normal_form(nexts, marks), (nexts, marks))
        nexts = [(at + 1 - many * (at == many - 1), at) for at in range(many)]
        self.assertEqual(normal_form(nexts, [False] * many), (((0, 0),), (False,)))
        nexts, marks = random_table(rng_of(3), many)
        form = normal_form(nexts, marks)
        self.assertEqual(normal_form(*form), form)
        halves = [(at, (at + 1) % 1000 + 1000 * (at < 1000)) for at in range(many)]
        self.assertEqual(len(normal_form(halves, [at % 1000 == 0 for at in range(many)])[0]), 1000)
        self.assertLess(time.perf_counter() - begin, 20)


def plain_mark(nexts, marks, state):
    """The mark of the state that more and more zeros lead to, so that zeros change no mark."""
    for _ in nexts:
        state = nexts[state][0]
    return marks[state]


if __name__ == "__main__":
    unittest.main()
