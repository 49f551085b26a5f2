"""A looker at the papers of two rules compared."""

from lanebanks.checks import is_integer, is_number
from lanebanks.compared import Freer, Less, Parted, Same, Split, Told, both_free, check_rules, same_banks, tells
from lanebanks.look_units import shows_unit
from lanebanks.units import Free


def shows_tells(one, other, value):
    """Whether any value is a right paper of whether one rule tells the other one."""
    check_rules(one, other)
    if isinstance(value, Split):
        return are_ascending(value.first, value.second) and is_alike(one, value) and not is_alike(other, value)
    return isinstance(value, Told) and are_names(value.names) and tells(one, other) == value


def shows_same(one, other, value):
    """Whether any value is a right paper of whether two rules put the same addresses together."""
    check_rules(one, other)
    if isinstance(value, Parted):
        return are_ascending(value.first, value.second) and is_alike(one, value) != is_alike(other, value)
    return isinstance(value, Same) and are_names(value.names) and same_banks(one, other) == value


def shows_freer(one, other, lanes, value, starts=None, limit=2000):
    """Whether any value is a right paper of whether each stride that is free by the other rule is free by one."""
    mine, strides = both_free(one, other, lanes, starts, limit)
    if isinstance(value, Less):
        return value.stride in strides and value.stride not in mine
    if not isinstance(value, Freer) or value.strides != strides:
        return False
    return shows_unit(one, lanes, strides, Free(value.tables), starts)


def are_ascending(first, second):
    """Whether any two values are addresses, the first one the lesser."""
    return is_number(first) and is_number(second) and first < second


def is_alike(rule, paper):
    """Whether the two addresses of a paper are in one bank by a rule."""
    return rule(paper.first) == rule(paper.second)


def are_names(value):
    """Whether a value is a dict from integers to integers."""
    # Python finds True for 1, so equal dicts can have values of other kinds.
    return isinstance(value, dict) and all([is_integer(key) and is_integer(name) for key, name in value.items()])
