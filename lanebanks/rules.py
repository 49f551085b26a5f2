"""Bank rules: the bank of an address is the sum of the weights of its digits."""

from math import lcm

from lanebanks.banks import MOST_BANKS, are_banks, are_moduli, bank_sum, bank_with, banks_by
from lanebanks.banks import doubled_weights, ones_of, parts_of, shortest_weights
from lanebanks.checks import is_number, is_within
from lanebanks.errors import BadNumber, BadRule, BadText, TooMany
from lanebanks.rule_text import read_weights
from lanebanks.wording import spaced

MOST_PLACES = 24


def check_padding(banks, every):
    """Raise for the first of these values by which no rule is padded."""
    if not is_within(banks, 2, MOST_BANKS):
        raise BadRule("banks")
    if not is_within(every, 1, 12):
        raise BadRule("every")


class Rule:
    """A rule that tells the bank of each address."""

    def __init__(self, moduli, ahead, turn):
        if not are_moduli(moduli):
            raise BadRule("moduli")
        if not are_banks(ahead, banks_by(moduli)):
            raise BadRule("ahead")
        if not are_banks(turn, banks_by(moduli)) or len(turn) == 0:
            raise BadRule("turn")
        self.moduli = tuple(moduli)
        self.ahead, self.turn = shortest_weights(tuple(ahead), tuple(turn))
        if self.classes > MOST_PLACES:
            raise TooMany("places", MOST_PLACES)

    @classmethod
    def modulo(cls, banks):
        """The rule by which the bank is the address modulo banks."""
        if not is_within(banks, 2, MOST_BANKS):
            raise BadRule("banks")
        ahead, turn = doubled_weights(1, banks)
        return cls((banks,), ahead, turn)

    @classmethod
    def xor(cls, bits, folds=0):
        """The rule by which the bank is made of so many bits, each the parity of each bits-th digit.

        With folds above 0 only the first folds * bits digits count.
        """
        if not is_within(bits, 1, 5):
            raise BadRule("bits")
        if not is_within(folds, 0, 8):
            raise BadRule("folds")
        weights = [1 << bit for bit in range(bits)]
        if folds == 0:
            return cls((2,) * bits, (), weights)
        return cls((2,) * bits, weights * folds, (0,))

    @classmethod
    def padded(cls, banks, every, pad):
        """The rule by which the bank is address + pad * (address // 2 ** every) modulo banks."""
        check_padding(banks, every)
        if not is_within(pad, 0, banks - 1):
            raise BadRule("pad")
        first = [(1 << place) % banks for place in range(every)]
        ahead, turn = doubled_weights((1 << every) + pad, banks)
        return cls((banks,), first + ahead, turn)

    @classmethod
    def read(cls, text):
        """The rule with this text."""
        moduli, ahead, turn = read_weights(text, MOST_PLACES)
        rule = cls(moduli, ahead, turn)
        if str(rule) != text:
            raise BadText(0, 0)
        return rule

    def __str__(self):
        return f"moduli {spaced(self.moduli)} ahead {spaced(self.ahead)} round {spaced(self.turn)}"

    def __eq__(self, other):
        return (isinstance(other, Rule) and self.moduli == other.moduli and self.ahead == other.ahead
                and self.turn == other.turn)

    def __call__(self, address):
        if not is_number(address):
            raise BadNumber(address)
        return bank_sum(self.moduli, self.ahead + self.turn, ones_of(address, len(self.ahead), len(self.turn)))

    @property
    def banks(self):
        """How many banks there are."""
        return banks_by(self.moduli)

    @property
    def classes(self):
        """How many classes of places there are."""
        return len(self.ahead) + len(self.turn)

    @property
    def is_cut(self):
        """Whether all weights of the round are 0."""
        return self.turn == (0,)

    def weight(self, place):
        """The weight of a place."""
        return (self.ahead + self.turn)[self.class_of(place)]

    def class_of(self, place):
        """The class of a place."""
        if not is_number(place):
            raise BadNumber(place)
        ahead = len(self.ahead)
        return place if place < ahead else ahead + (place - ahead) % len(self.turn)

    def next_class(self, number):
        """The class of the place behind one of this class."""
        if not is_within(number, 0, self.classes - 1):
            raise BadNumber(number)
        return number + 1 if number + 1 < self.classes else len(self.ahead)

    def added(self, one, other):
        """The sum of two banks."""
        self.check_banks(one, other)
        return bank_sum(self.moduli, (one, other), (1, 1))

    def less(self, one, other):
        """The bank that makes one if other is added to it."""
        self.check_banks(one, other)
        return bank_sum(self.moduli, (one, other), (1, -1))

    def check_banks(self, *values):
        """Raise for the first value that is no bank."""
        for value in values:
            if not is_within(value, 0, self.banks - 1):
                raise BadNumber(value)

    def parts(self, bank):
        """The tuple of the parts of a bank."""
        self.check_banks(bank)
        return parts_of(self.moduli, bank)

    def bank_of(self, *parts):
        """The bank of these parts."""
        if len(parts) != len(self.moduli):
            raise BadRule("parts")
        for part, modulus in zip(parts, self.moduli):
            if not is_within(part, 0, modulus - 1):
                raise BadRule("parts")
        return bank_with(self.moduli, parts)

    def __mul__(self, other):
        if not isinstance(other, Rule):
            raise BadRule("other")
        ahead, rows = self.weights_beside(other)
        weights = [one + self.banks * beside for one, beside in rows]
        return Rule(self.moduli + other.moduli, weights[:ahead], weights[ahead:])

    def __add__(self, other):
        if not isinstance(other, Rule) or self.moduli != other.moduli:
            raise BadRule("other")
        ahead, rows = self.weights_beside(other)
        weights = [bank_sum(self.moduli, row, (1, 1)) for row in rows]
        return Rule(self.moduli, weights[:ahead], weights[ahead:])

    def weights_beside(self, other):
        """How many places are ahead of a round of both rules, and the pairs of the weights to its end."""
        ahead = max(len(self.ahead), len(other.ahead))
        places = range(ahead + lcm(len(self.turn), len(other.turn)))
        return ahead, [(self.weight(place), other.weight(place)) for place in places]

    def __neg__(self):
        ahead = [bank_sum(self.moduli, (weight,), (-1,)) for weight in self.ahead]
        turn = [bank_sum(self.moduli, (weight,), (-1,)) for weight in self.turn]
        return Rule(self.moduli, ahead, turn)

    def __lshift__(self, other):
        if not is_within(other, 0, 24):
            raise BadNumber(other)
        return Rule(self.moduli, (0,) * other + self.ahead, self.turn)

    def cut(self, number):
        """The rule with the weight 0 from the place number on."""
        if not is_within(number, 0, 24):
            raise BadNumber(number)
        return Rule(self.moduli, [self.weight(place) for place in range(number)], (0,))
