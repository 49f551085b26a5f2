"""A looker at the papers of distances: it walks them, and searches nothing."""

from lanebanks.checks import is_number
from lanebanks.distances import Meets, Never, check_distance, check_rule
from lanebanks.kinds import are_tuples, is_row_below
from lanebanks.pair_rows import leads_of

MOST_ROWS = 20000


def shows_distance(rule, d, value):
    """Whether any value is a right paper of whether d is a distance."""
    check_rule(rule)
    check_distance(d)
    return shows_paper(rule, leads_of(rule), d, value)


def shows_paper(rule, leads, d, value):
    """What shows_distance tells, for the leads of the rule."""
    if isinstance(value, Meets):
        return is_number(value.start) and rule(value.start) == rule(value.start + d)
    return isinstance(value, Never) and shows_never(rule, leads, d, value)


def shows_never(rule, leads, d, paper):
    """Whether a Never has all rows that come up, in whatever order, and none of them is a meeting."""
    if not are_tuples(paper.levels, d.bit_length() + 1) or not isinstance(paper.back, tuple):
        return False
    if sum([len(level) for level in paper.levels]) + len(paper.back) > MOST_ROWS:
        return False
    sizes = (2, rule.banks)
    if not all([is_row_below(pair, sizes) for level in paper.levels for pair in level]):
        return False
    sizes = (rule.classes, 2, rule.banks)
    if not all([is_row_below(triple, sizes) for triple in paper.back]):
        return False
    levels = [codes_of(rule, level) for level in paper.levels]
    back = [{} for _ in range(rule.classes)]
    for number, carry, bank in paper.back:
        back[number][carry * rule.banks + bank] = True
    last = rule.class_of(d.bit_length())
    if 0 not in levels[0] or any([0 in codes for codes in back]):
        return False
    for place in range(d.bit_length()):
        table = leads[rule.class_of(place)][d >> place & 1]
        if not leads_into(table, levels[place], levels[place + 1]):
            return False
    if not all([code in back[last] for code in levels[-1]]):
        return False
    return all([leads_into(leads[at][0], back[at], back[rule.next_class(at)]) for at in range(rule.classes)])


def codes_of(rule, level):
    """The codes of the pairs of a level, as keys of a dict."""
    return {carry * rule.banks + bank: True for carry, bank in level}


def leads_into(table, codes, behind):
    """Whether both digits of a start lead from each of these codes to one of those behind."""
    return all([table[code][0] in behind and table[code][1] in behind for code in codes])
