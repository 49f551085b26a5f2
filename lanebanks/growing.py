"""Digit sets that grow from a first row, and their limits."""

from lanebanks.errors import TooMany
from lanebanks.normal import normal_form
from lanebanks.sets import NumberSet
from lanebanks.tables import grown_table


def limited_set(nexts, marks, limit):
    """The set with this normal form, refused if it has more than limit states."""
    if len(nexts) > limit:
        raise TooMany("states", limit)
    return NumberSet(nexts, marks)


def grown_set(first, lead, is_in, limit):
    """The set that the rows tell which are reached from the first one, refused beyond limit states.

    lead(row, digit) is the next row, is_in(row) the mark.
    """
    table, marks = grown_table(first, lead, is_in)
    nexts, marks = normal_form(table, marks)
    return limited_set(nexts, marks, limit)
