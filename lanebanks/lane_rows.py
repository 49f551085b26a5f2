"""Rows of two lanes: what matters of a start and a stride behind some digits of both.

A row is a tuple (class, carry, other carry, bank): the class of the next place, the carries of both
lanes, and by how much the bank of the other lane is more so far.
"""

from lanebanks.banks import bank_sum, shifts_by

FIRST_ROW = (0, 0, 0, 0)


def shifts_both_ways(rule, weight):
    """For each bank itself, the sum of it and a weight, and it less the weight: three lists."""
    less = bank_sum(rule.moduli, (weight,), (-1,))
    return list(range(rule.banks)), shifts_by(rule.moduli, weight), shifts_by(rule.moduli, less)


def classes_before(rule):
    """For each class of places the list of those that it follows."""
    before = [[] for _ in range(rule.classes)]
    for number in range(rule.classes):
        before[rule.next_class(number)].append(number)
    return before


class LanePair:
    """Two lanes of a unit by a rule."""

    def __init__(self, rule, one, other):
        self.one = one
        self.other = other
        self.following = [rule.next_class(number) for number in range(rule.classes)]
        self.shifts = [shifts_both_ways(rule, weight) for weight in rule.ahead + rule.turn]

    def led_to(self, row, digit, step):
        """The row to which a digit of the start and a digit of the stride lead."""
        number, carry, other_carry, bank = row
        total = digit + self.one * step + carry
        other_total = digit + self.other * step + other_carry
        # Of the shifts the one with the index -1, the last one, is for a 1 of the first lane alone.
        shifted = self.shifts[number][other_total % 2 - total % 2][bank]
        return self.following[number], total // 2, other_total // 2, shifted


def pairs_of(lanes, starts):
    """The pairs of lanes that matter: for all starts, which None stands for, those of the lane 0 are enough."""
    firsts = 1 if starts is None else lanes
    return [(one, other) for one in range(firsts) for other in range(one + 1, lanes)]
