"""Stands: what matters of a start and all offsets of a pattern behind some digits.

Stands come in halls: one for each of so many places, then one for each place of the round of the rule,
to which the stands of all later places of this class come.
"""

from lanebanks.lane_rows import shifts_both_ways


class Halls:
    """The halls of a rule and a pattern."""

    def __init__(self, rule, pattern):
        ahead = len(rule.ahead)
        digits = pattern.offsets[-1].bit_length()
        self.offsets = pattern.offsets
        self.bank_rule = rule
        self.singles = digits if digits > ahead else ahead
        self.many = self.singles + len(rule.turn)
        # The class of the first place behind all single ones need not be the first of the round.
        self.turned = (self.singles - ahead) % len(rule.turn)
        self.shifts = [shifts_both_ways(rule, weight) for weight in rule.ahead + rule.turn]
        self.first = ((0,) * len(self.offsets), (0,) * len(self.offsets))

    def hall_behind(self, hall):
        """The hall of the place behind one of this hall."""
        if hall == self.singles - 1:
            return self.singles + self.turned
        return hall + 1 if hall + 1 < self.many else self.singles

    def class_at(self, hall):
        """The class of the places of a hall."""
        ahead = len(self.bank_rule.ahead)
        return self.bank_rule.class_of(hall) if hall < self.singles else ahead + hall - self.singles

    def stand_behind(self, hall, stand, digit):
        """The stand to which a digit of the start leads from a stand of a hall."""
        _, more, less = self.shifts[self.class_at(hall)]
        shifted = less if digit == 1 else more
        carries = []
        banks = []
        for offset, carry, bank in zip(self.offsets, stand[0], stand[1]):
            # A digit of the offset and a carry that are alike leave the digit of the start as it is.
            is_other = (offset >> hall & 1) != carry
            carries.append(digit if is_other else carry)
            banks.append(shifted[bank] if is_other else bank)
        return tuple(carries), tuple(banks)


def crowd_of(banks):
    """How many of these banks, at least one, are equal at most."""
    return max([int(banks.count(bank)) for bank in banks])
