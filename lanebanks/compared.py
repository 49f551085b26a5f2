"""Two rules compared: which banks tell banks, and which rule frees more strides."""

from lanebanks.errors import BadRule
from lanebanks.distances import check_limit
from lanebanks.least_addresses import least_addresses
from lanebanks.rules import Rule
from lanebanks.units import check_lanes, check_starts, every_free, free_strides
from lanebanks.verdicts import Verdict


class Told(Verdict):
    """The paper of a rule that tells another one: from its banks to the other one's."""

    def __init__(self, names):
        self.names = names

    def __eq__(self, other):
        return isinstance(other, Told) and self.names == other.names

    def __bool__(self):
        return True


class Split(Verdict):
    """The paper of a rule that does not tell another one: addresses of one bank that the other one parts."""

    def __init__(self, first, second):
        self.first = first
        self.second = second

    def __eq__(self, other):
        return isinstance(other, Split) and self.first == other.first and self.second == other.second

    def __bool__(self):
        return False


class Same(Verdict):
    """The paper of rules that put the same addresses together: from the banks of one to the other one's."""

    def __init__(self, names):
        self.names = names

    def __eq__(self, other):
        return isinstance(other, Same) and self.names == other.names

    def __bool__(self):
        return True


class Parted(Verdict):
    """The paper of rules that do not: addresses of one bank by just one of them."""

    def __init__(self, first, second):
        self.first = first
        self.second = second

    def __eq__(self, other):
        return isinstance(other, Parted) and self.first == other.first and self.second == other.second

    def __bool__(self):
        return False


class Freer(Verdict):
    """The paper of a rule that frees all strides that another one frees: these, and that they are free."""

    def __init__(self, strides, tables):
        self.strides = strides
        self.tables = tables

    def __eq__(self, other):
        return isinstance(other, Freer) and self.strides == other.strides and self.tables == other.tables

    def __bool__(self):
        return True


class Less(Verdict):
    """The paper of a rule that does not: a stride that the other one frees and it does not."""

    def __init__(self, stride):
        self.stride = stride

    def __eq__(self, other):
        return isinstance(other, Less) and self.stride == other.stride

    def __bool__(self):
        return False


def check_rules(one, other):
    """Raise for the first of these values that is no rule."""
    if not isinstance(one, Rule):
        raise BadRule("one")
    if not isinstance(other, Rule):
        raise BadRule("other")


def both_free(one, other, lanes, starts, limit):
    """The sets of the strides that are free by one rule, and by the other one."""
    check_rules(one, other)
    check_lanes(lanes)
    check_starts(starts)
    check_limit(limit)
    return free_strides(one, lanes, starts, limit), free_strides(other, lanes, starts, limit)


def tells(one, other):
    """Whether the bank of an address by one rule tells that by the other one: Told or Split."""
    check_rules(one, other)
    names = {}
    firsts = {}
    for address, bank, other_bank in least_addresses(one, other):
        if names.setdefault(bank, other_bank) != other_bank:
            return Split(firsts[bank], address)
        firsts.setdefault(bank, address)
    return Told({bank: names[bank] for bank in range(one.banks) if bank in names})


def same_banks(one, other):
    """Whether any two addresses have one bank by one rule exactly if they do by the other one: Same or Parted."""
    check_rules(one, other)
    names = {}
    back = {}
    firsts = {}
    other_firsts = {}
    for address, bank, other_bank in least_addresses(one, other):
        parted = []
        if names.setdefault(bank, other_bank) != other_bank:
            parted.append(firsts[bank])
        if back.setdefault(other_bank, bank) != bank:
            parted.append(other_firsts[other_bank])
        if parted:
            return Parted(min([int(first) for first in parted]), address)
        firsts.setdefault(bank, address)
        other_firsts.setdefault(other_bank, address)
    return Same({bank: names[bank] for bank in range(one.banks) if bank in names})


def freer(one, other, lanes, starts=None, limit=2000):
    """Whether each stride that is free by the other rule is free by one: Freer or Less."""
    mine, strides = both_free(one, other, lanes, starts, limit)
    stride = (strides - mine).least
    if stride is not None:
        return Less(stride)
    return Freer(strides, every_free(one, lanes, strides, starts).tables)


def first_unlike(one, other, lanes, starts=None, limit=2000):
    """The least stride that is free by just one of both rules, None if there is none."""
    mine, strides = both_free(one, other, lanes, starts, limit)
    return (mine ^ strides).least


def order(one, other, lanes, starts=None, limit=2000):
    """How the free strides of one rule stand to those of the other one: alike, better, worse or apart."""
    mine, strides = both_free(one, other, lanes, starts, limit)
    if mine == strides:
        return "alike"
    if strides.within(mine):
        return "better"
    return "worse" if mine.within(strides) else "apart"
