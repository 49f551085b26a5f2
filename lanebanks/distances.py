"""Distances: the numbers d such that two addresses a and a + d are in one bank."""

from lanebanks.checks import is_within
from lanebanks.errors import BadNumber, BadRule
from lanebanks.growing import grown_set, limited_set
from lanebanks.lane_sets import meeting_table
from lanebanks.listing import least_further
from lanebanks.pair_rows import leads_of, ones_to_meet
from lanebanks.rules import Rule
from lanebanks.sets import NumberSet
from lanebanks.verdicts import Verdict

GREATEST = 10 ** 30


class Meets(Verdict):
    """The paper of a distance: a start at which two addresses so far apart are in one bank."""

    def __init__(self, start):
        self.start = start

    def __eq__(self, other):
        return isinstance(other, Meets) and self.start == other.start

    def __bool__(self):
        return True


class Never(Verdict):
    """The paper of a number that is no distance: what rows come up, and none of them is a meeting."""

    def __init__(self, levels, back):
        self.levels = levels
        self.back = back

    def __eq__(self, other):
        return isinstance(other, Never) and self.levels == other.levels and self.back == other.back

    def __bool__(self):
        return False


def check_rule(rule):
    """Raise for a value that is no rule."""
    if not isinstance(rule, Rule):
        raise BadRule("rule")


def check_distance(d):
    """Raise for a value that can be asked for as no distance."""
    if not is_within(d, 1, GREATEST):
        raise BadNumber(d)


def check_limit(limit):
    """Raise for a value that is no limit of states."""
    if not is_within(limit, 1, NumberSet.MOST):
        raise BadNumber(limit)


def distances(rule, limit=2000):
    """The set of all distances."""
    check_rule(rule)
    check_limit(limit)
    nexts, marks = meeting_table(rule, 0, 1, NumberSet.every())
    return limited_set(nexts, marks, limit)


def is_distance(rule, d):
    """Whether d is a distance."""
    return bool(distance(rule, d))


def distance(rule, d):
    """The least start at which a and a + d are in one bank, as Meets; Never with what comes up if there is none."""
    check_rule(rule)
    check_distance(d)
    return paper_of(rule, leads_of(rule), d)


def paper_of(rule, leads, d):
    """What distance tells, for any d from 1 on and the leads of the rule."""
    levels = start_levels(rule, leads, d)
    number = rule.class_of(len(levels) - 1)
    starts = []
    for code, start in levels[-1].items():
        ones = ones_to_meet(rule, leads, number, code)
        if ones is not None:
            starts.append(start + ((1 << ones) - 1 << d.bit_length()))
    if starts:
        return Meets(min([int(start) for start in starts]))
    return Never(tuple([level_of(rule, level) for level in levels]), back_of(rule, leads, number, levels[-1]))


def start_levels(rule, leads, d):
    """For the first 0, 1, 2 .. digits of d the dict from the codes that come up to the least starts for them."""
    levels = [{0: 0}]
    for place in range(d.bit_length()):
        table = leads[rule.class_of(place)][d >> place & 1]
        levels.append(least_further(table, levels[-1], place))
    return levels


def level_of(rule, codes):
    """The ascending tuple of the pairs (carry, bank) of these codes."""
    return tuple([divmod(code, rule.banks) for code in range(2 * rule.banks) if code in codes])


def back_of(rule, leads, number, codes):
    """The ascending tuple of all triples (class, carry, bank) that come up from these codes on, d being read."""
    found = {}
    waiting = [(number, code) for code in codes]
    while waiting:
        at, code = waiting.pop()
        if (at, code) not in found:
            found[(at, code)] = True
            waiting.extend([(rule.next_class(at), end) for end in leads[at][0][code]])
    rows = [(at, code) for at in range(rule.classes) for code in range(2 * rule.banks) if (at, code) in found]
    return tuple([(at, code // rule.banks, code % rule.banks) for at, code in rows])


def meeting_starts(rule, d, limit=2000):
    """The set of all starts a at which a and a + d are in one bank."""
    check_rule(rule)
    check_distance(d)
    check_limit(limit)
    leads = leads_of(rule)

    # A row holds the digits of d that are not read yet, the class of the next place, and a code.
    def lead(row, digit):
        left, number, code = row
        return left // 2, rule.next_class(number), leads[number][left % 2][code][digit]

    def is_in(row):
        while row[0] > 0 or row[2] >= rule.banks:
            row = lead(row, 0)
        return row[2] == 0

    return grown_set((d, 0, 0), lead, is_in, limit)
