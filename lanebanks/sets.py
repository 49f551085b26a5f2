"""Digit sets: sets of numbers that finitely many states tell."""

from lanebanks.checks import is_number, is_within
from lanebanks.errors import BadNumber, BadSet, BadText, NoMember
from lanebanks.listing import ascending, count_below, end_of, least_from, least_words, marked_states, member_at
from lanebanks.listing import state_behind
from lanebanks.making import table_between, table_of_multiples, table_of_numbers
from lanebanks.normal import normal_form
from lanebanks.set_text import read_states, state_text
from lanebanks.solving import solved_table
from lanebanks.tables import paired

GREATEST = 10 ** 40


def is_row(value):
    """Whether a value is a list or tuple."""
    return isinstance(value, (list, tuple))


def is_ends(value, many):
    """Whether a value is a pair of states, of so many ones."""
    return is_row(value) and len(value) == 2 and is_within(value[0], 0, many - 1) and is_within(value[1], 0, many - 1)


def are_nexts(value, most):
    """Whether a value tells the next states of 1 to most states."""
    return is_row(value) and 1 <= len(value) <= most and all([is_ends(ends, len(value)) for ends in value])


def are_marks(value, many):
    """Whether a value tells the marks of so many states."""
    return is_row(value) and len(value) == many and all([isinstance(mark, bool) for mark in value])


class NumberSet:
    """The set of the numbers behind whose last digit a state is reached that is marked in."""

    MOST = 2000

    def __init__(self, nexts, marks):
        if not are_nexts(nexts, NumberSet.MOST):
            raise BadSet("nexts")
        if not are_marks(marks, len(nexts)):
            raise BadSet("marks")
        if not all([marks[ends[0]] == mark for ends, mark in zip(nexts, marks)]):
            raise BadSet("zeros")
        self.nexts, self.marks = normal_form(nexts, marks)

    @staticmethod
    def none():
        """The set without a number."""
        return NumberSet(((0, 0),), (False,))

    @staticmethod
    def every():
        """The set of all numbers."""
        return NumberSet(((0, 0),), (True,))

    # A class method, as a method with a star must have a plain first parameter; it is called as a static one.
    @classmethod
    def of(cls, *numbers):
        """The set of these numbers."""
        for number in numbers:
            if not is_within(number, 0, GREATEST):
                raise BadNumber(number)
        nexts, marks = table_of_numbers(numbers, NumberSet.MOST)
        return cls(nexts, marks)

    @staticmethod
    def between(low, high=None):
        """The numbers from low to high - 1, without an end if high is None."""
        if not is_within(low, 0, GREATEST):
            raise BadNumber(low)
        if high is not None and not is_within(high, 0, GREATEST):
            raise BadNumber(high)
        nexts, marks = table_between(low, high)
        return NumberSet(nexts, marks)

    @staticmethod
    def multiples(step, rest=0):
        """The numbers with the remainder rest by step."""
        if not is_within(step, 1, 500):
            raise BadNumber(step)
        if not is_within(rest, 0, step - 1):
            raise BadNumber(rest)
        nexts, marks = table_of_multiples(step, rest)
        return NumberSet(nexts, marks)

    @classmethod
    def read(cls, text):
        """The set with this text."""
        nexts, marks = read_states(text, NumberSet.MOST)
        one = cls(nexts, marks)
        if str(one) != text:
            raise BadText(0, 0)
        return one

    def __str__(self):
        return " / ".join([state_text(ends, mark) for ends, mark in zip(self.nexts, self.marks)])

    def __eq__(self, other):
        return isinstance(other, NumberSet) and self.nexts == other.nexts and self.marks == other.marks

    def __contains__(self, x):
        return is_number(x) and self.marks[state_behind(self.nexts, 0, x)]

    def __iter__(self):
        raise TypeError("a set of numbers is not iterated over: take its members()")

    def __getitem__(self, at):
        end = end_of(self.nexts, self.marks)
        if not is_number(at) or (end is not None and at >= end[1]):
            raise NoMember(at)
        return member_at(self.nexts, self.marks, at, 1000)

    def __invert__(self):
        return NumberSet(self.nexts, [not mark for mark in self.marks])

    def __or__(self, other):
        pairs, nexts = self.pairs_with(other)
        return NumberSet(nexts, [self.marks[left] or other.marks[right] for left, right in pairs])

    def __and__(self, other):
        pairs, nexts = self.pairs_with(other)
        return NumberSet(nexts, [self.marks[left] and other.marks[right] for left, right in pairs])

    def __sub__(self, other):
        pairs, nexts = self.pairs_with(other)
        return NumberSet(nexts, [self.marks[left] and not other.marks[right] for left, right in pairs])

    def __xor__(self, other):
        pairs, nexts = self.pairs_with(other)
        return NumberSet(nexts, [self.marks[left] != other.marks[right] for left, right in pairs])

    def within(self, other):
        """Whether all numbers of this set are in the other one."""
        pairs, _ = self.pairs_with(other)
        return all([other.marks[right] or not self.marks[left] for left, right in pairs])

    def pairs_with(self, other):
        """The pairs of a state of this set and one of the other that the same digits reach, and their table."""
        if not isinstance(other, NumberSet):
            raise BadSet("other")
        return paired(self.nexts, other.nexts, NumberSet.MOST)

    def solved(self, times, plus=0):
        """The set of the numbers p for which times * p + plus is in this set."""
        if not is_within(times, 1, 64):
            raise BadNumber(times)
        if not is_within(plus, -64, 64):
            raise BadNumber(plus)
        nexts, marks = solved_table(self.nexts, self.marks, times, plus, NumberSet.MOST)
        return NumberSet(nexts, marks)

    @property
    def states(self):
        """How many states the normal form has."""
        return len(self.nexts)

    @property
    def least(self):
        """The least member, None without any."""
        words = least_words(self.nexts)
        return min([int(words[state]) for state in marked_states(self.marks)], default=None)

    @property
    def greatest(self):
        """The greatest member, None without any or without an end."""
        end = end_of(self.nexts, self.marks)
        return None if end is None or end[1] == 0 else end[0]

    @property
    def is_endless(self):
        """Whether there is no greatest member because there is always a greater one."""
        return end_of(self.nexts, self.marks) is None

    def next_from(self, number):
        """The least member that is not below number, None if there is none."""
        if not is_within(number, 0, GREATEST):
            raise BadNumber(number)
        return least_from(self.nexts, self.marks, number)

    def count(self, below):
        """How many members are below a number."""
        if not is_within(below, 0, GREATEST):
            raise BadNumber(below)
        return count_below(self.nexts, self.marks, below)

    def members(self, begin=0):
        """The members from begin on, ascending, one by one."""
        if not is_within(begin, 0, GREATEST):
            raise BadNumber(begin)
        yield from ascending(self.nexts, self.marks, begin)
