"""A looker at the papers of patterns: it walks them, and searches nothing."""

from lanebanks.checks import is_integer, is_number
from lanebanks.distances import Never, check_rule
from lanebanks.look_distances import shows_paper
from lanebanks.pair_rows import leads_of
from lanebanks.tiles import Clear, Jam, check_pattern


def shows_clear(rule, pattern, value):
    """Whether any value is a right paper of whether no two addresses of a pattern ever meet."""
    check_rule(rule)
    check_pattern(pattern)
    if isinstance(value, Jam):
        return shows_jam(rule, pattern, value)
    if not isinstance(value, Clear) or not isinstance(value.papers, dict):
        return False
    # A key such as True is no gap, though Python finds it for 1.
    papers = {gap: paper for gap, paper in value.papers.items() if is_integer(gap)}
    leads = leads_of(rule)
    for gap in pattern.gaps():
        paper = papers.get(gap)
        if not isinstance(paper, Never) or not shows_paper(rule, leads, gap, paper):
            return False
    return True


def shows_jam(rule, pattern, paper):
    """Whether the two addresses of a Jam are unlike ones of the pattern that meet at its start."""
    if not is_number(paper.start) or paper.one not in pattern or paper.other not in pattern:
        return False
    return paper.one != paper.other and rule(paper.start + paper.one) == rule(paper.start + paper.other)
