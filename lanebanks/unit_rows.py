"""The rows of the tables of a unit, for two lanes, a set of starts and a set of strides.

A row is (class, carry, other carry, bank, state of starts, state of strides, seen). Its code is an
integer; codes ascend as rows do. A code is made of a core, for the first four parts, and a rest.
"""

from lanebanks.errors import TooMany
from lanebanks.lane_rows import LanePair
from lanebanks.tables import live_states

MOST_ROWS = 600000
DIGITS = ((0, 0), (0, 1), (1, 0), (1, 1))


def code_by(sizes, parts):
    """The integer for parts, each of them below its size."""
    code = 0
    for size, part in zip(sizes, parts):
        code = code * size + part
    return code


def parts_by(sizes, code):
    """The tuple of the parts for a code."""
    parts = []
    left = code
    for size in sizes[::-1]:
        parts.append(left % size)
        left = left // size
    return tuple(parts[::-1])


class UnitRows:
    """The codes of the rows of two lanes, and where they lead, without the rows with a dead state."""

    def __init__(self, rule, one, other, starts, strides):
        self.pair = LanePair(rule, one, other)
        self.starts = starts
        self.strides = strides
        self.live_starts = live_states(starts.nexts, starts.marks)
        self.live_strides = live_states(strides.nexts, strides.marks)
        self.core_sizes = (rule.classes, one + 1, other + 1, rule.banks)
        self.rest_sizes = (starts.states, strides.states, 2)
        self.sizes = self.core_sizes + self.rest_sizes
        self.rests = 2 * starts.states * strides.states
        self.meets = (one + 1) * (other + 1) * rule.banks
        self.core_ends = {}
        self.rest_ends = {}

    def code_of(self, row):
        """The code of a row."""
        return code_by(self.sizes, row)

    def row_of(self, code):
        """The row with a code."""
        return parts_by(self.sizes, code)

    def firsts(self):
        """The list of the code of the first row, without it if it has a dead state."""
        return [0] if self.live_starts[0] and self.live_strides[0] else []

    def is_meeting(self, code):
        """Whether a row tells that the lanes meet at a start that counts and a stride of the set."""
        if code // self.rests % self.meets != 0:
            return False
        state, stride_state, seen = parts_by(self.rest_sizes, code % self.rests)
        return self.starts.marks[state] and self.strides.marks[stride_state] and seen == 1

    def ends_of(self, code):
        """The codes of the rows to which a row leads, without those with a dead state."""
        core, rest = divmod(code, self.rests)
        cores = self.cores_behind(core)
        return [cores[at] + end for at, end in self.rests_behind(rest)]

    def cores_behind(self, core):
        """For the digits of a start and a stride in the order of DIGITS, the codes of the next rows without a rest."""
        if core not in self.core_ends:
            row = parts_by(self.core_sizes, core)
            ends = [self.pair.led_to(row, digit, step) for digit, step in DIGITS]
            self.core_ends[core] = [code_by(self.core_sizes, end) * self.rests for end in ends]
        return self.core_ends[core]

    def rests_behind(self, rest):
        """The pairs of an index of DIGITS and the rest to which these digits lead, without those with a dead state."""
        if rest not in self.rest_ends:
            state, stride_state, seen = parts_by(self.rest_sizes, rest)
            ends = []
            for at, (digit, step) in enumerate(DIGITS):
                start_end = self.starts.nexts[state][digit]
                stride_end = self.strides.nexts[stride_state][step]
                if self.live_starts[start_end] and self.live_strides[stride_end]:
                    ends.append((at, code_by(self.rest_sizes, (start_end, stride_end, seen | step))))
            self.rest_ends[rest] = ends
        return self.rest_ends[rest]

    def digits_between(self, code, end):
        """Digits of a start and a stride that lead from one row to another one."""
        core, rest = divmod(code, self.rests)
        cores = self.cores_behind(core)
        return [DIGITS[at] for at, behind in self.rests_behind(rest) if cores[at] + behind == end][0]


def explored(rows, room):
    """The dict of the codes of all rows that come up, each with the one that leads to it, and the code of a meeting.

    Without a meeting its code is None; with one the dict need not be whole. More rows than room are refused.
    """
    order = rows.firsts()
    sources = {code: None for code in order}
    at = 0
    while at < len(order):
        code = order[at]
        ends = rows.ends_of(code)
        for end in ends:
            if end not in sources:
                sources[end] = code
                order.append(end)
                if rows.is_meeting(end):
                    return sources, end
        if len(order) > room:
            raise TooMany("rows", MOST_ROWS)
        at += 1
    return sources, None


def numbers_to(rows, sources, code):
    """The start and the stride whose digits lead to a row, by the dict of explored."""
    start = 0
    stride = 0
    end = code
    while sources[end] is not None:
        digit, step = rows.digits_between(sources[end], end)
        start = 2 * start + digit
        stride = 2 * stride + step
        end = sources[end]
    return start, stride
