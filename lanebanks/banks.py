"""Banks as rows of parts, and the weights of places."""

from lanebanks.checks import is_within

MOST_BANKS = 32
MOST_MODULI = 5


def banks_by(moduli):
    """How many banks these moduli make."""
    banks = 1
    for modulus in moduli:
        banks = banks * modulus
    return banks


def are_moduli(value):
    """Whether a value is a list or tuple of the moduli of a rule."""
    if not isinstance(value, (list, tuple)) or not 1 <= len(value) <= MOST_MODULI:
        return False
    return all([is_within(modulus, 2, MOST_BANKS) for modulus in value]) and banks_by(value) <= MOST_BANKS


def are_banks(value, banks):
    """Whether a value is a list or tuple of banks, of so many ones."""
    return isinstance(value, (list, tuple)) and all([is_within(bank, 0, banks - 1) for bank in value])


def parts_of(moduli, bank):
    """The tuple of the parts of a bank."""
    parts = []
    left = bank
    for modulus in moduli:
        parts.append(left % modulus)
        left = left // modulus
    return tuple(parts)


def bank_with(moduli, parts):
    """The bank with these parts."""
    bank = 0
    for modulus, part in list(zip(moduli, parts))[::-1]:
        bank = bank * modulus + part
    return bank


def bank_sum(moduli, banks, times):
    """The sum of banks, each of them so many times."""
    rows = [parts_of(moduli, bank) for bank in banks]
    sums = []
    for at, modulus in enumerate(moduli):
        sums.append(sum([many * parts[at] for many, parts in zip(times, rows)]) % modulus)
    return bank_with(moduli, sums)


def ones_of(address, ahead, turn):
    """How many digits 1 an address has at each of so many places ahead, then at those of each class of a round."""
    digits = f"{address:b}"[::-1]
    many = [digits[place:place + 1].count("1") for place in range(ahead)]
    for place in range(turn):
        many.append(digits[ahead + place::turn].count("1"))
    return many


def shifts_by(moduli, weight):
    """For each bank the sum of it and a weight."""
    shifts = [0]
    for modulus, part in zip(moduli, parts_of(moduli, weight)):
        size = len(shifts)
        shifts = [lower + size * ((at + part) % modulus) for at in range(modulus) for lower in shifts]
    return shifts


def shortest_weights(ahead, turn):
    """The weights ahead and those of the round of the normal form, for tuples of both."""
    lengths = [length for length in range(1, len(turn) + 1) if len(turn) % length == 0]
    turn = [turn[:length] for length in lengths if turn[:length] * (len(turn) // length) == turn][0]
    while ahead and ahead[-1] == turn[-1]:
        ahead = ahead[:-1]
        turn = turn[-1:] + turn[:-1]
    return ahead, turn


def doubled_weights(first, banks):
    """first, twice it and so on modulo banks: the list of those ahead of a round, that of the round."""
    weights = []
    weight = first % banks
    while weight not in weights:
        weights.append(weight)
        weight = 2 * weight % banks
    begin = weights.index(weight)
    return weights[:begin], weights[begin:]
