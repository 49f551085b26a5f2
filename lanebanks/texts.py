"""The texts of settings, logs, and of what a unit does."""

from lanebanks.checks import is_within
from lanebanks.distances import check_rule
from lanebanks.errors import BadUnit
from lanebanks.kinds import is_row_below
from lanebanks.seen import check_log
from lanebanks.units import MOST_LANES, Clash, Free, check_lanes, check_starts

GREATEST_STRIDE = 10 ** 40
GREATEST_PART = 10 ** 6
ROW_PARTS = 7


def setting_text(rule, lanes, starts=None):
    """The text of a rule, a number of lanes, and starts."""
    check_rule(rule)
    check_lanes(lanes)
    check_starts(starts)
    counted = "all" if starts is None else str(starts)
    return "\n".join([f"rule {rule}", f"lanes {lanes}", f"starts {counted}"])


def log_text(log):
    """The text of a log."""
    check_log(log)
    lines = [entry_line(first, second, met) for first, second, met in log.entries]
    return "\n".join(lines) if lines else "-"


def entry_line(first, second, met):
    """The line of an entry of a log."""
    word = "met" if met else "apart"
    return f"{first} {second} {word}"


def unit_text(value):
    """The text of what a unit does, a Clash or a Free."""
    if isinstance(value, Clash) and is_clash(value):
        return f"clash {value.stride} {value.start} {value.one} {value.other}"
    if isinstance(value, Free) and are_tables(value.tables):
        lines = ["free"]
        for table in value.tables:
            lines.append("table")
            lines.extend([" ".join([str(part) for part in row]) for row in table])
        return "\n".join(lines)
    raise BadUnit("value")


def is_clash(paper):
    """Whether a Clash keeps a stride, a start and two lanes."""
    if not is_within(paper.stride, 0, GREATEST_STRIDE) or not is_within(paper.start, 0, GREATEST_STRIDE):
        return False
    return is_within(paper.one, 0, MOST_LANES - 1) and is_within(paper.other, 0, MOST_LANES - 1)


def are_tables(value):
    """Whether a value is a tuple of tuples of rows."""
    if not isinstance(value, tuple) or not all([isinstance(table, tuple) for table in value]):
        return False
    sizes = (GREATEST_PART + 1,) * ROW_PARTS
    return all([is_row_below(row, sizes) for table in value for row in table])
