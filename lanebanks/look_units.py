"""A looker at the papers of units: it walks them, and searches nothing."""

from lanebanks.checks import is_within
from lanebanks.kinds import are_tuples, is_row_below
from lanebanks.lane_rows import pairs_of
from lanebanks.unit_rows import MOST_ROWS, UnitRows
from lanebanks.units import Clash, Free, check_unit, starts_that_count


def shows_unit(rule, lanes, strides, value, starts=None):
    """Whether any value is a right paper of whether all strides of a set are free."""
    check_unit(rule, lanes, strides, starts)
    counted = starts_that_count(starts)
    if isinstance(value, Clash):
        return value.stride in strides and value.start in counted and shows_clash(rule, lanes, value)
    if not isinstance(value, Free):
        return False
    pairs = pairs_of(lanes, starts)
    if not are_tuples(value.tables, len(pairs)) or sum([len(table) for table in value.tables]) > MOST_ROWS:
        return False
    for (one, other), table in zip(pairs, value.tables):
        if not shows_table(UnitRows(rule, one, other, counted, strides), table):
            return False
    return True


def shows_clash(rule, lanes, paper):
    """Whether the two lanes of a Clash are lanes that meet at its start and stride, which are numbers."""
    if not is_within(paper.one, 0, lanes - 2) or not is_within(paper.other, paper.one + 1, lanes - 1):
        return False
    if paper.stride == 0:
        return False
    return rule(paper.start + paper.one * paper.stride) == rule(paper.start + paper.other * paper.stride)


def shows_table(rows, table):
    """Whether a table is closed and tells no meeting."""
    if not all([is_row_below(row, rows.sizes) for row in table]):
        return False
    held = {rows.code_of(row): True for row in table}
    if not all([code in held for code in rows.firsts()]):
        return False
    return all([is_right(rows, held, code) for code in held])


def is_right(rows, held, code):
    """Whether a row is no meeting, and all rows to which it leads are held."""
    return not rows.is_meeting(code) and all([end in held for end in rows.ends_of(code)])
