"""Rows of the addresses a and a + d for all starts a, read digit by digit.

Within a class of places a row has a code: its carry times the number of banks, plus its bank. So
the code 0 has neither a carry nor a bank, and codes ascend as the pairs (carry, bank) do.
"""

from lanebanks.banks import bank_sum, shifts_by


def leads_of(rule):
    """For each class of places and each digit of d, for each code the codes that the digits of a lead to.

    These are a pair: one code for the digit 0 of a, one for 1.
    """
    return [leads_by(rule, weight) for weight in rule.ahead + rule.turn]


def leads_by(rule, weight):
    """The leads of a place with this weight, for the digits 0 and 1 of d."""
    banks = rule.banks
    more = shifts_by(rule.moduli, weight)
    fewer = shifts_by(rule.moduli, bank_sum(rule.moduli, (weight,), (-1,)))
    # A digit of d and a carry that are alike leave the digit of a as it is.
    without = [(bank, bank) for bank in range(banks)]
    carried = [(banks + bank, banks + bank) for bank in range(banks)]
    changed = [(more[bank], banks + fewer[bank]) for bank in range(banks)]
    return without + changed, changed + carried


def ones_to_meet(rule, leads, number, code):
    """With how many digits 1, and then 0, behind all digits of d a start leads to the code 0, None if never.

    number is the class of the place behind all digits of d.
    """
    if code < rule.banks:
        return 0 if code == 0 else None
    for ones in range(rule.classes * rule.banks):
        zero, one = leads[number][0][code]
        if zero == 0:
            return ones
        number, code = rule.next_class(number), one
    return None
