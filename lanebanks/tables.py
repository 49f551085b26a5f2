"""Tables of states: for each state the pair of its next states for the digits 0 and 1."""

from lanebanks.errors import TooMany


def sources_of(nexts, digit):
    """For each state the list of the states from which a digit leads to it."""
    sources = [[] for _ in nexts]
    for state, ends in enumerate(nexts):
        sources[ends[digit]].append(state)
    return sources


def live_states(nexts, marks):
    """For each state whether some digits lead from it to one that is in: no others are dead."""
    sources = (sources_of(nexts, 0), sources_of(nexts, 1))
    live = list(marks)
    waiting = [state for state, mark in enumerate(marks) if mark]
    while waiting:
        end = waiting.pop()
        for leading in sources:
            for state in leading[end]:
                if not live[state]:
                    live[state] = True
                    waiting.append(state)
    return live


def table_of(leads):
    """The table for a dict from rows to their two next rows; the states are numbered in its order."""
    numbers = {row: number for number, row in enumerate(leads)}
    return [(numbers[zero], numbers[one]) for zero, one in leads.values()]


def paired(one, other, most=None):
    """The list of the pairs of states that two tables reach by the same digits, and their table.

    Pairs beyond most are refused.
    """
    leads = {}
    waiting = [(0, 0)]
    while waiting:
        left, right = waiting.pop()
        if (left, right) not in leads:
            zero = (one[left][0], other[right][0])
            high = (one[left][1], other[right][1])
            leads[(left, right)] = (zero, high)
            waiting.append(zero)
            waiting.append(high)
        if most is not None and len(leads) > most:
            raise TooMany("states", most)
    return list(leads), table_of(leads)


def grown_table(first, lead, is_in, most=None):
    """The table and the marks of all rows that are reached from the first one.

    lead(row, digit) is the next row, is_in(row) the mark. Rows beyond most are refused.
    """
    leads = {}
    waiting = [first]
    while waiting:
        row = waiting.pop()
        if row not in leads:
            leads[row] = (lead(row, 0), lead(row, 1))
            waiting.extend(leads[row])
        if most is not None and len(leads) > most:
            raise TooMany("states", most)
    return table_of(leads), [is_in(row) for row in leads]
