"""The rules of a shape: moduli, so many places ahead, so many in the round."""

from math import lcm

from lanebanks.banks import bank_sum, banks_by, ones_of, shortest_weights
from lanebanks.rules import Rule

MOST_RULES = 5000


def choices_of(banks, places):
    """How many choices of weights there are for so many places."""
    choices = 1
    for _ in range(places):
        choices = choices * banks
    return choices


def rules_told(moduli, ahead, turn):
    """The tuple of the rules, each once, by the first weights, ascending, that tell them."""
    rows = [()]
    for _ in range(ahead + turn):
        rows = [row + (bank,) for row in rows for bank in range(banks_by(moduli))]
    rules = {}
    for row in rows:
        weights = shortest_weights(row[:ahead], row[ahead:])
        if weights not in rules:
            rules[weights] = Rule(moduli, weights[0], weights[1])
    return tuple(rules.values())


def claim_of(shape, first, second):
    """By how much more digits 1 the second address has, for each of the places that a shape tells.

    As sums of equal banks come round, this counts only modulo all moduli.
    """
    many = 1
    for modulus in shape.moduli:
        many = lcm(many, modulus)
    rows = list(zip(ones_of(first, shape.ahead, shape.turn), ones_of(second, shape.ahead, shape.turn)))
    return tuple([(more - less) % many for less, more in rows])


def fits(shape, rule, claims):
    """Whether all claims hold by a rule: each one is told with whether its two addresses have one bank."""
    weights = [rule.weight(place) for place in range(shape.ahead + shape.turn)]
    for claim, met in claims:
        if (bank_sum(shape.moduli, weights, claim) == 0) != met:
            return False
    return True
