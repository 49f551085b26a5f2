"""Rules that are made for patterns: paddings, weights of few places, fewest banks."""

from lanebanks.banks import MOST_BANKS
from lanebanks.checks import is_within
from lanebanks.errors import BadRule, BadTile
from lanebanks.rules import Rule, check_padding
from lanebanks.tiles import Jam, Pattern, clear
from lanebanks.verdicts import Verdict


class Padded(Verdict):
    """The paper of a pad by which patterns are clear: jams by each lesser one, what clear tells by this one."""

    def __init__(self, pad, jams, papers):
        self.pad = pad
        self.jams = jams
        self.papers = papers

    def __eq__(self, other):
        return (isinstance(other, Padded) and self.pad == other.pad and self.jams == other.jams
                and self.papers == other.papers)

    def __bool__(self):
        return True


class Unpadded(Verdict):
    """The paper of patterns that no pad makes clear: jams by each of them."""

    def __init__(self, jams):
        self.jams = jams

    def __eq__(self, other):
        return isinstance(other, Unpadded) and self.jams == other.jams

    def __bool__(self):
        return False


class Weighted(Verdict):
    """The paper of weights by which patterns are clear, with what clear tells."""

    def __init__(self, weights, papers):
        self.weights = weights
        self.papers = papers

    def __eq__(self, other):
        return isinstance(other, Weighted) and self.weights == other.weights and self.papers == other.papers

    def __bool__(self):
        return True


class Unweighted(Verdict):
    """The paper of patterns that no weights make clear: a tree of jams."""

    def __init__(self, tree):
        self.tree = tree

    def __eq__(self, other):
        return isinstance(other, Unweighted) and self.tree == other.tree

    def __bool__(self):
        return False


def check_patterns(patterns):
    """Raise for the first one of a tuple that is no pattern, and for one without any."""
    if len(patterns) == 0:
        raise BadTile("patterns")
    for at, pattern in enumerate(patterns):
        if not isinstance(pattern, Pattern):
            raise BadTile(at)


def check_weighing(banks, places):
    """Raise for the first of these values by which no weights are looked for."""
    if not is_within(banks, 2, 4):
        raise BadRule("banks")
    if not is_within(places, 1, 5):
        raise BadRule("places")


def first_padding(banks, every, *patterns):
    """The least pad by which all patterns are clear, as Padded; Unpadded if there is none."""
    check_padding(banks, every)
    check_patterns(patterns)
    jams = []
    for rule in padded_rules(banks, every):
        leaf, papers = jam_or_papers(rule, patterns)
        if leaf is None:
            return Padded(len(jams), tuple(jams), papers)
        jams.append(leaf)
    return Unpadded(tuple(jams))


def padded_rules(banks, every):
    """The rules of all pads, ascending."""
    return [Rule.padded(banks, every, pad) for pad in range(banks)]


def jam_or_papers(rule, patterns):
    """The pair of the index of a pattern that is not clear by a rule and a Jam of it, and nothing more.

    Without such a pattern None, and the tuple of what clear tells of the patterns.
    """
    # Most jams are there at the start 0, and a look at it takes far less time than all gaps do.
    for at, pattern in enumerate(patterns):
        pair = equal_pair(pattern.offsets, [rule(offset) for offset in pattern.offsets])
        if pair is not None:
            return (at, Jam(0, pair[0], pair[1])), ()
    papers = []
    for at, pattern in enumerate(patterns):
        paper = clear(rule, pattern)
        if not paper:
            return (at, paper), ()
        papers.append(paper)
    return None, tuple(papers)


def equal_pair(offsets, banks):
    """The first two offsets, the lesser one first, whose banks are equal, None if there are none."""
    held = {}
    for offset, bank in zip(offsets, banks):
        if bank in held:
            return held[bank], offset
        held[bank] = offset
    return None


def first_weights(banks, places, *patterns):
    """The least weights of so many places by which all patterns are clear, as Weighted; Unweighted without any."""
    check_weighing(banks, places)
    check_patterns(patterns)
    return weighed(banks, places, patterns, (), [0])


def weighed(banks, places, patterns, weights, row):
    """What first_weights tells of all weights that begin with these.

    row has the banks of the addresses that have digits 1 at the places of these weights alone.
    """
    leaf = near_jam(row, patterns)
    if leaf is not None:
        return Unweighted(leaf)
    if len(weights) == places:
        leaf, papers = jam_or_papers(Rule((banks,), weights, (0,)), patterns)
        return Weighted(weights, papers) if leaf is None else Unweighted(leaf)
    trees = []
    for weight in range(banks):
        longer = row + [(bank + weight) % banks for bank in row]
        paper = weighed(banks, places, patterns, weights + (weight,), longer)
        if paper:
            return paper
        trees.append(paper.tree)
    return Unweighted(tuple(trees))


def near_jam(row, patterns):
    """The pair of an index of a pattern and a Jam of two of its addresses in a row of banks, None without any."""
    for at, pattern in enumerate(patterns):
        for start in range(len(row)):
            banks = [row[start + offset] for offset in pattern.offsets if start + offset < len(row)]
            pair = equal_pair(pattern.offsets, banks)
            if pair is not None:
                return at, Jam(start, pair[0], pair[1])
    return None


def fewest_banks(*patterns):
    """The least number of banks by which, addresses modulo it, all patterns are clear, None if there is none."""
    check_patterns(patterns)
    gaps = [gap for pattern in patterns for gap in pattern.gaps()]
    for banks in range(2, MOST_BANKS + 1):
        if all([gap % banks != 0 for gap in gaps]):
            return banks
    return None
