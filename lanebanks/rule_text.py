"""How a bank rule stands in a text."""

from lanebanks.banks import MOST_BANKS, are_moduli, banks_by
from lanebanks.errors import BadText
from lanebanks.wording import whole_in


def expect(words, at, wanted):
    """Raise unless the word with this index is there and is the one that is wanted."""
    if words[at:at + 1] != [wanted]:
        raise BadText(0, at)


def moduli_from(words, begin):
    """The moduli that stand from a word on, up to the first word that cannot be one."""
    moduli = []
    for word in words[begin:]:
        more = moduli + [whole_in(word, MOST_BANKS)]
        if not are_moduli(more):
            break
        moduli = more
    return moduli


def weights_from(words, begin, banks, most):
    """The weights that stand from a word on, at most so many, up to the first word that cannot be one."""
    weights = []
    for word in words[begin:begin + most]:
        weight = whole_in(word, banks - 1)
        if weight is None:
            break
        weights.append(weight)
    return weights


def read_weights(text, most):
    """The moduli, the weights ahead and those of the round that a text tells, of at most so many places."""
    if not isinstance(text, str):
        raise BadText(0, 0)
    words = text.split(" ")
    expect(words, 0, "moduli")
    moduli = moduli_from(words, 1)
    at = 1 + len(moduli)
    if not moduli:
        raise BadText(0, at)
    expect(words, at, "ahead")
    ahead = weights_from(words, at + 1, banks_by(moduli), most - 1)
    if not ahead:
        expect(words, at + 1, "-")
    at = at + 1 + max(1, len(ahead))
    expect(words, at, "round")
    turn = weights_from(words, at + 1, banks_by(moduli), most - len(ahead))
    at = at + 1 + len(turn)
    if not turn or at < len(words):
        raise BadText(0, at)
    return moduli, ahead, turn
