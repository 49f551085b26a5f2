"""Tables of states that are made from other tables."""

from lanebanks.listing import state_behind
from lanebanks.normal import normal_form
from lanebanks.tables import grown_table, paired


def solved_table(nexts, marks, times, plus, most=None):
    """The table and the marks of the numbers p for which times * p + plus is in the set of a table.

    Refused if more than most pairs of a state and a carry come up.
    """

    def lead(row, digit):
        state, carry = row
        total = times * digit + carry
        return nexts[state][total % 2], total // 2

    def is_in(row):
        state, carry = row
        # A carry below 0 stays so: the sum is below 0.
        return carry >= 0 and marks[state_behind(nexts, state, carry)]

    return grown_table((0, plus), lead, is_in, most)


def joined_table(one, other):
    """The normal form of the numbers in either set, for a pair of nexts and marks of each."""
    nexts, marks = one
    other_nexts, other_marks = other
    pairs, table = paired(nexts, other_nexts)
    return normal_form(table, [marks[left] or other_marks[right] for left, right in pairs])
