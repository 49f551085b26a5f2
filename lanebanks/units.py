"""Units of lanes: at which strides lanes meet, and at which ones they never do."""

from lanebanks.checks import is_within
from lanebanks.distances import GREATEST, check_limit, check_rule, paper_of
from lanebanks.errors import BadNumber, BadUnit
from lanebanks.growing import limited_set
from lanebanks.lane_masks import meets_at
from lanebanks.lane_rows import pairs_of
from lanebanks.lane_sets import clashing_table, meeting_table
from lanebanks.pair_rows import leads_of
from lanebanks.sets import NumberSet
from lanebanks.unit_rows import MOST_ROWS, UnitRows, explored, numbers_to
from lanebanks.verdicts import Verdict

MOST_LANES = 16


class Free(Verdict):
    """The paper of free strides: tables of all rows that come up, and none of them is a meeting."""

    def __init__(self, tables):
        self.tables = tables

    def __eq__(self, other):
        return isinstance(other, Free) and self.tables == other.tables

    def __bool__(self):
        return True


class Clash(Verdict):
    """The paper of a stride that is not free: a start at which two lanes meet."""

    def __init__(self, stride, start, one, other):
        self.stride = stride
        self.start = start
        self.one = one
        self.other = other

    def __eq__(self, other):
        return (isinstance(other, Clash) and self.stride == other.stride and self.start == other.start
                and self.one == other.one and self.other == other.other)

    def __bool__(self):
        return False


def check_lanes(lanes):
    """Raise for a value that is no number of lanes."""
    if not is_within(lanes, 2, MOST_LANES):
        raise BadUnit("lanes")


def check_number(value):
    """Raise for a value that is no stride or start that can be asked for."""
    if not is_within(value, 0, GREATEST):
        raise BadNumber(value)


def check_starts(starts):
    """Raise for a value that tells no starts."""
    if starts is not None and not isinstance(starts, NumberSet):
        raise BadUnit("starts")


def check_unit(rule, lanes, strides, starts):
    """Raise for the first of these values that is wrong."""
    check_rule(rule)
    check_lanes(lanes)
    if not isinstance(strides, NumberSet):
        raise BadUnit("strides")
    check_starts(starts)


def starts_that_count(starts):
    """The set of the starts that count: all of them for None."""
    return NumberSet.every() if starts is None else starts


def meeting(rule, one, other, starts=None, limit=2000):
    """The set of the strides at which two lanes meet at some start."""
    check_rule(rule)
    if not is_within(one, 0, MOST_LANES - 2):
        raise BadUnit("one")
    if not is_within(other, one + 1, MOST_LANES - 1):
        raise BadUnit("other")
    check_starts(starts)
    check_limit(limit)
    # For all starts the distance of the lanes is what matters.
    lesser = 0 if starts is None else one
    nexts, marks = meeting_table(rule, lesser, lesser + other - one, starts_that_count(starts))
    return limited_set(nexts, marks, limit)


def free_strides(rule, lanes, starts=None, limit=2000):
    """The set of the free strides."""
    check_rule(rule)
    check_lanes(lanes)
    check_starts(starts)
    check_limit(limit)
    nexts, marks = clashing_table(rule, lanes, starts)
    return limited_set(nexts, [not mark for mark in marks], limit)


def is_free(rule, lanes, stride, starts=None):
    """Whether a stride is free."""
    check_rule(rule)
    check_lanes(lanes)
    check_number(stride)
    check_starts(starts)
    if stride == 0:
        return True
    if starts is not None:
        return not meets_at(rule, lanes, stride, starts)
    leads = leads_of(rule)
    return not any([bool(paper_of(rule, leads, lane * stride)) for lane in range(1, lanes)])


def first_clash(rule, lanes, stride, start):
    """The pair of the first two lanes that meet at this stride and this start, None if none do."""
    check_rule(rule)
    check_lanes(lanes)
    check_number(stride)
    check_number(start)
    banks = [rule(start + lane * stride) for lane in range(lanes)]
    for one in range(lanes if stride > 0 else 0):
        if banks[one] in banks[one + 1:]:
            return one, banks.index(banks[one], one + 1)
    return None


def unit(rule, lanes, stride, starts=None):
    """Whether a stride is free, with its paper."""
    check_rule(rule)
    check_lanes(lanes)
    check_number(stride)
    return every_free(rule, lanes, NumberSet.of(stride), starts)


def every_free(rule, lanes, strides, starts=None):
    """Whether all strides of a set are free: Free with all rows that come up, or Clash."""
    check_unit(rule, lanes, strides, starts)
    room = MOST_ROWS
    tables = []
    for one, other in pairs_of(lanes, starts):
        rows = UnitRows(rule, one, other, starts_that_count(starts), strides)
        sources, code = explored(rows, room)
        if code is not None:
            start, stride = numbers_to(rows, sources, code)
            return Clash(stride, start, one, other)
        room = room - len(sources)
        tables.append(tuple([rows.row_of(reached) for reached in sorted([int(held) for held in sources])]))
    return Free(tuple(tables))
