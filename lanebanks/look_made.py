"""A looker at the papers of rules that are made for patterns: it walks them, and searches nothing."""

from lanebanks.checks import is_within
from lanebanks.errors import BadTile
from lanebanks.kinds import is_row_below
from lanebanks.look_tiles import shows_clear, shows_jam
from lanebanks.made import Padded, Unpadded, Unweighted, Weighted, check_patterns, check_weighing, padded_rules
from lanebanks.rules import Rule, check_padding
from lanebanks.tiles import Clear, Jam


def shows_padding(banks, every, patterns, value):
    """Whether any value is a right paper of which pad makes patterns clear."""
    check_padding(banks, every)
    check_row_of_patterns(patterns)
    rules = padded_rules(banks, every)
    if isinstance(value, Unpadded):
        return are_jams(rules, patterns, value.jams)
    if not isinstance(value, Padded) or not is_within(value.pad, 0, banks - 1):
        return False
    return are_jams(rules[:value.pad], patterns, value.jams) and are_clears(rules[value.pad], patterns, value.papers)


def shows_weights(banks, places, patterns, value):
    """Whether any value is a right paper of which weights make patterns clear."""
    check_weighing(banks, places)
    check_row_of_patterns(patterns)
    if isinstance(value, Unweighted):
        return is_tree(banks, places, patterns, value.tree, ())
    if not isinstance(value, Weighted) or not is_row_below(value.weights, (banks,) * places):
        return False
    return are_clears(Rule((banks,), value.weights, (0,)), patterns, value.papers)


def check_row_of_patterns(patterns):
    """Raise for a value that is no list or tuple of patterns, at least one."""
    if not isinstance(patterns, (list, tuple)):
        raise BadTile("patterns")
    check_patterns(patterns)


def are_jams(rules, patterns, value):
    """Whether a value is a tuple that has, for each rule in order, a pattern and a right Jam of it."""
    if not isinstance(value, tuple) or len(value) != len(rules):
        return False
    return all([is_jam_by(rule, patterns, pair) for rule, pair in zip(rules, value)])


def is_jam_by(rule, patterns, value):
    """Whether a value is a pair of the index of a pattern and a Jam of it that is right by a rule."""
    if not isinstance(value, tuple) or len(value) != 2 or not is_within(value[0], 0, len(patterns) - 1):
        return False
    return isinstance(value[1], Jam) and shows_jam(rule, patterns[value[0]], value[1])


def are_clears(rule, patterns, value):
    """Whether a value is a tuple that has, for each pattern in order, a Clear that is right by a rule."""
    if not isinstance(value, tuple) or len(value) != len(patterns):
        return False
    papers = list(zip(patterns, value))
    return all([isinstance(paper, Clear) and shows_clear(rule, pattern, paper) for pattern, paper in papers])


def is_tree(banks, places, patterns, value, weights):
    """Whether a value is a right tree for these first weights."""
    if not isinstance(value, tuple):
        return False
    if len(value) == 2 and isinstance(value[1], Jam):
        # By this rule the places behind those of the weights do not count, so none may have a digit 1 there.
        is_jam = is_jam_by(Rule((banks,), weights, (0,)), patterns, value)
        return is_jam and (len(weights) == places or is_below(value[1], 1 << len(weights)))
    if len(value) != banks or len(weights) == places:
        return False
    return all([is_tree(banks, places, patterns, value[weight], weights + (weight,)) for weight in range(banks)])


def is_below(jam, most):
    """Whether both addresses of a Jam are below a number."""
    return jam.start + jam.one < most and jam.start + jam.other < most
