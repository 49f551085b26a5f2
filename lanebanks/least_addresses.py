"""The least addresses for the pairs of banks by two rules."""

from math import lcm

from lanebanks.lane_rows import shifts_both_ways


def added_to(rule):
    """For each class of places for each bank the sum of it and the weight."""
    return [shifts_both_ways(rule, weight)[1] for weight in rule.ahead + rule.turn]


def least_addresses(one, other):
    """The triples of an address, its bank by one rule and by the other one, for the least address of each such pair.

    They ascend. An address whose highest digit is at a place is the least one of a pair only if the rest
    of it is the least one of its pair, and was found at the places below.
    """
    sums, other_sums = added_to(one), added_to(other)
    turn = lcm(len(one.turn), len(other.turn))
    ahead = max(len(one.ahead), len(other.ahead))
    found = {(0, 0): 0}
    # Weights that once led to no fresh pair never will: what comes later is made of pairs moved by other weights.
    idle = {}
    place = 0
    last = ahead + turn
    while place < last:
        row, other_row = sums[one.class_of(place)], other_sums[other.class_of(place)]
        weights = (row[0], other_row[0])
        fresh = [] if weights in idle else fresh_pairs(found, row, other_row, place)
        for pair, address in fresh:
            found[pair] = address
        if not fresh:
            idle[weights] = True
        elif place >= ahead:
            last = place + 1 + turn
        place += 1
    return [(address, bank, other_bank) for (bank, other_bank), address in found.items()]


def fresh_pairs(found, row, other_row, place):
    """The pairs that are not found yet, with their addresses, to which a digit 1 at a place leads."""
    fresh = []
    for (bank, other_bank), address in found.items():
        pair = (row[bank], other_row[other_bank])
        if pair not in found:
            fresh.append((pair, address + (1 << place)))
    return fresh
