"""Members of digit sets that are given by normal forms: which ones, how many, the least ones.

A walk from the highest digit down keeps the states from which the digits that are chosen already
lead to a state that is in; the states that fewer digits reach tell which choices come to a member.
"""

from lanebanks.errors import TooMany
from lanebanks.tables import sources_of


def state_behind(nexts, state, number):
    """The state behind the digits of a number, read from a state on."""
    for digit in f"{number:b}"[::-1]:
        state = nexts[state][int(digit)]
    return state


def marked_states(marks):
    """The list of the states that are in."""
    return [state for state, mark in enumerate(marks) if mark]


def leading_to(sources, ends):
    """The list of the states from which a digit leads to one of these, by the sources for it."""
    return [state for end in ends for state in sources[end]]


def further(nexts, ways):
    """How many ways lead to each state behind one digit more."""
    behind = [0 for _ in nexts]
    for many, ends in zip(ways, nexts):
        if many:
            behind[ends[0]] = behind[ends[0]] + many
            behind[ends[1]] = behind[ends[1]] + many
    return behind


def first_ways(nexts):
    """How many ways lead to each state behind no digit."""
    return [1 if state == 0 else 0 for state in range(len(nexts))]


def ways_to(ways, states):
    """How many ways lead to one of these states."""
    return sum([ways[state] for state in states])


def least_further(nexts, level, place):
    """The dict from the states one digit behind those of level to the least numbers that lead there.

    level is such a dict for the digits at the places below place.
    """
    found = {}
    for digit in (0, 1):
        for state, number in level.items():
            end = nexts[state][digit]
            reached = number + (digit << place)
            if reached <= found.get(end, reached):
                found[end] = reached
    return found


def least_words(nexts):
    """For each state the least number that leads to it with the fewest digits."""
    words = {0: 0}
    level = {0: 0}
    place = 0
    while level:
        found = least_further(nexts, level, place)
        level = {state: number for state, number in found.items() if state not in words}
        for state, number in level.items():
            words[state] = number
        place += 1
    return tuple([words[state] for state in range(len(nexts))])


def ending_states(nexts, marks):
    """The states from which finitely many members come, each behind those to which it leads.

    The first ones are those without a further digit 1: they lead to themselves.
    """
    sources = (sources_of(nexts, 0), sources_of(nexts, 1))
    empty = [state for state, ends in enumerate(nexts) if ends == (state, state) and not marks[state]]
    closed = [state for state, ends in enumerate(nexts) if ends[0] == state and ends[1] in empty]
    order = list(closed)
    missing = [2 for _ in nexts]
    for state in closed:
        missing[state] = -1
    at = 0
    while at < len(order):
        for leading in sources:
            for state in leading[order[at]]:
                missing[state] = missing[state] - 1
                if missing[state] == 0:
                    order.append(state)
        at += 1
    return order


def end_of(nexts, marks):
    """The pair of the greatest member, -1 without any, and of how many there are; None without an end."""
    greatest = {}
    many = {}
    for state in ending_states(nexts, marks):
        zero, one = nexts[state]
        if zero == state:
            greatest[state] = 0 if marks[state] else -1
            many[state] = 1 if marks[state] else 0
        else:
            low, high = 2 * greatest[zero], 2 * greatest[one] + 1
            greatest[state] = low if low > high else high
            many[state] = many[zero] + many[one]
    return (greatest[0], many[0]) if 0 in many else None


def count_below(nexts, marks, below):
    """How many members are below a number."""
    zeros, ones = sources_of(nexts, 0), sources_of(nexts, 1)
    levels = [first_ways(nexts)]
    for _ in range(below.bit_length()):
        levels.append(further(nexts, levels[-1]))
    ends = marked_states(marks)
    many = 0
    for place in range(below.bit_length() - 1, -1, -1):
        lower = leading_to(zeros, ends)
        if below >> place & 1:
            many = many + ways_to(levels[place], lower)
            lower = leading_to(ones, ends)
        ends = lower
    return many


def levels_beyond(nexts, ends, index, digits):
    """For 0, 1, 2 .. digits the ways to each state, until more than index lead to one of the ends."""
    levels = [first_ways(nexts)]
    while ways_to(levels[-1], ends) <= index:
        if len(levels) > digits:
            raise TooMany("digits", digits)
        levels.append(further(nexts, levels[-1]))
    return levels


def member_at(nexts, marks, index, digits):
    """The member with an index that is there; refused if it has more than so many digits."""
    zeros, ones = sources_of(nexts, 0), sources_of(nexts, 1)
    ends = marked_states(marks)
    levels = levels_beyond(nexts, ends, index, digits)
    number = 0
    left = index
    for place in range(len(levels) - 2, -1, -1):
        lower = leading_to(zeros, ends)
        many = ways_to(levels[place], lower)
        if left < many:
            ends = lower
        else:
            left = left - many
            number = number + (1 << place)
            ends = leading_to(ones, ends)
    return number


def branches_from(zeros, ones, ends, begin):
    """Where the numbers from begin on part from it, the greatest ones first, and begin itself.

    A branch is a triple: the place below which all digits are open, the states from which the
    other digits lead to one of the ends, and the number that these digits make.
    """
    branches = []
    for place in range(begin.bit_length() - 1, -1, -1):
        if begin >> place & 1:
            ends = leading_to(ones, ends)
        else:
            branches.append((place, leading_to(ones, ends), (begin >> place | 1) << place))
            ends = leading_to(zeros, ends)
    branches.append((0, ends, begin))
    return branches


def ascending(nexts, marks, begin):
    """The members from begin on, ascending, one by one."""
    zeros, ones = sources_of(nexts, 0), sources_of(nexts, 1)
    ends = marked_states(marks)
    end = end_of(nexts, marks)
    levels = [first_ways(nexts)]
    for _ in range(begin.bit_length()):
        levels.append([1 if many else 0 for many in further(nexts, levels[-1])])
    branches = branches_from(zeros, ones, ends, begin)
    while branches or end is None or 1 << len(levels) - 1 <= end[0]:
        if not branches:
            branches.append((len(levels) - 1, leading_to(ones, ends), 1 << len(levels) - 1))
            levels.append([1 if many else 0 for many in further(nexts, levels[-1])])
        place, states, number = branches.pop()
        if not any([levels[place][state] for state in states]):
            continue
        if place == 0:
            yield number
        else:
            branches.append((place - 1, leading_to(ones, states), number + (1 << place - 1)))
            branches.append((place - 1, leading_to(zeros, states), number))


def least_from(nexts, marks, begin):
    """The least member that is not below a number, None if there is none."""
    for member in ascending(nexts, marks, begin):
        return member
    return None
