"""The strides at which lanes meet, as tables of states.

There are two ways from rows to a set. One reads strides from the lowest digit on, and keeps all rows that
come up. The other one first reads them from the highest digit down, and keeps from which rows of a class
what was read leads to a meeting: an ending. Of the rows that come up behind low digits it then keeps only
which endings have one of them. Either way can be the short one, so both get more and more room in turn.
"""

from lanebanks.errors import TooMany
from lanebanks.lane_rows import FIRST_ROW, LanePair, classes_before, pairs_of
from lanebanks.normal import normal_form
from lanebanks.sets import NumberSet
from lanebanks.solving import joined_table
from lanebanks.tables import grown_table, live_states

FIRST_ROOM = 1000
NO_STRIDE = (((0, 0),), (False,))
ALL_BUT_ZERO = (((0, 1), (1, 1)), (False, True))


class StrideRows:
    """The rows of two lanes, each with a state of the starts that is not dead, that come up at any strides.

    For each class: following has the class that follows it, before those that it follows; rows has the rows;
    leads has, for either digit of a stride, for each of these rows the pair of the numbers of the rows that it
    leads to.
    """

    def __init__(self, rule, one, other, nexts, marks):
        pair = LanePair(rule, one, other)
        live = live_states(nexts, marks)
        first = (FIRST_ROW, 0)
        self.following = pair.following
        self.before = classes_before(rule)
        self.leads = [([], []) for _ in self.following]
        self.rows = [[] for _ in self.following]
        self.rows[0].append(first)
        numbers = {first: 0}
        order = [first]
        at = 0
        while at < len(order):
            row, state = order[at]
            digits = [digit for digit in (0, 1) if live[nexts[state][digit]]]
            for step in (0, 1):
                ends = [(pair.led_to(row, digit, step), nexts[state][digit]) for digit in digits]
                for end in ends:
                    if end not in numbers:
                        numbers[end] = len(self.rows[end[0][0]])
                        self.rows[end[0][0]].append(end)
                        order.append(end)
                self.leads[row[0]][step].append((numbers[ends[0]], numbers[ends[-1]]))
            at += 1
        self.endings = self.zero_endings(marks)

    def zero_endings(self, marks):
        """For each class from which of its rows zeros of the stride lead to a meeting: a text of 0 and 1."""
        endings = []
        for rows in self.rows:
            endings.append("".join(["1" if row[1:] == (0, 0, 0) and marks[state] else "0" for row, state in rows]))
        is_new = True
        while is_new:
            is_new = False
            for number in range(len(self.rows) - 1, -1, -1):
                back = led_back(endings[self.following[number]], self.leads[number][0])
                # A meeting goes on as one behind zeros of the start, so nothing is lost.
                is_new = is_new or back != endings[number]
                endings[number] = back
        return endings


def led_back(ending, leads):
    """From which rows one of the two rows that they lead to is in an ending."""
    return "".join([ending[one] if ending[one] == "1" else ending[other] for one, other in leads])


def clashing_table(rule, lanes, starts):
    """The normal form of the set of the strides that are not free for these starts, None standing for all."""
    if starts is not None and not live_states(starts.nexts, starts.marks)[0]:
        return NO_STRIDE
    # With more lanes than banks two of them meet at each start, unless the stride is 0.
    if lanes > rule.banks:
        return ALL_BUT_ZERO
    clashing = joined_meetings(rule, pairs_of(lanes, None), NumberSet.every(), ALL_BUT_ZERO)
    return clashing if starts is None else joined_meetings(rule, pairs_of(lanes, starts), starts, clashing)


def joined_meetings(rule, pairs, starts, most):
    """The normal form of the set of the strides at which any of these pairs of lanes meet at some of the starts.

    There are no others in it than those of most, a normal form: with all of them the rest of the pairs is idle.
    """
    joined = NO_STRIDE
    for one, other in pairs:
        if joined != most:
            joined = joined_table(joined, meeting_table(rule, one, other, starts))
    return joined


def meeting_table(rule, one, other, starts):
    """The normal form of the set of the strides at which these two lanes meet at some of the starts."""
    if not live_states(starts.nexts, starts.marks)[0]:
        return NO_STRIDE
    rows = StrideRows(rule, one, other, starts.nexts, starts.marks)
    found = None
    room = FIRST_ROOM
    while found is None:
        found = table_by_endings(rows, room) or table_by_rows(rows, room)
        room = 4 * room
    nexts, marks = found
    return normal_form(nexts, marks)


def table_by_rows(rows, room):
    """The table and the marks, by all rows that come up; None if they need more room."""

    def lead(held, digit):
        number, numbers, has_one = held
        leads = rows.leads[number][digit]
        ends = sorted(set([int(end) for at in numbers for end in leads[at]]))
        return rows.following[number], tuple(ends), has_one or digit == 1

    def is_in(held):
        number, numbers, has_one = held
        return has_one and any([rows.endings[number][at] == "1" for at in numbers])

    return table_within(room, (0, (0,), False), lead, is_in)


def table_by_endings(rows, room):
    """The table and the marks, by which endings come up; None if they need more room."""
    found = all_endings(rows, room)
    if found is None:
        return None
    firsts, sources = found

    def lead(held, digit):
        number, hits, has_one = held
        return rows.following[number], "".join([hits[at] for at in sources[number][digit]]), has_one or digit == 1

    def is_in(held):
        number, hits, has_one = held
        return has_one and hits[0] == "1"

    return table_within(room, (0, firsts, False), lead, is_in)


def all_endings(rows, room):
    """Which endings of the class 0 have the first row; and for each class and each digit, for the endings
    of the next class, in order, the number of the ending that has all rows that lead into it.

    The ending 0 of each class is that of zeros. None if there are more endings than room.
    """
    endings = [[ending] for ending in rows.endings]
    numbers = [{ending: 0} for ending in rows.endings]
    sources = [([], []) for _ in endings]
    order = [(number, 0) for number in range(len(endings))]
    at = 0
    while at < len(order) <= room:
        behind, index = order[at]
        for number in rows.before[behind]:
            for digit in (0, 1):
                ending = led_back(endings[behind][index], rows.leads[number][digit])
                if ending not in numbers[number]:
                    numbers[number][ending] = len(endings[number])
                    order.append((number, len(endings[number])))
                    endings[number].append(ending)
                sources[number][digit].append(numbers[number][ending])
        at += 1
    if at < len(order):
        return None
    return "".join([ending[0] for ending in endings[0]]), sources


def table_within(room, first, lead, is_in):
    """The table and the marks of all rows that are reached from the first one; None if they need more room."""
    try:
        return grown_table(first, lead, is_in, room)
    except TooMany:
        return None
