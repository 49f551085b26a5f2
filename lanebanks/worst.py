"""How many addresses of a pattern are in one bank at once, at the worst start."""

from lanebanks.checks import is_within
from lanebanks.distances import check_rule
from lanebanks.errors import BadNumber, TooMany
from lanebanks.stands import Halls, crowd_of
from lanebanks.tiles import Pattern, check_pattern

MOST_STANDS = 20000


class Shared:
    """The paper of how many addresses share a bank at a start, with all stands that come."""

    def __init__(self, number, start, stands, behind):
        self.number = number
        self.start = start
        self.stands = stands
        self.behind = behind

    def __eq__(self, other):
        return (isinstance(other, Shared) and self.number == other.number and self.start == other.start
                and self.stands == other.stands and self.behind == other.behind)


def shared(rule, pattern, limit=5000):
    """The greatest number of addresses of a pattern that are in one bank at one start, as Shared."""
    check_rule(rule)
    check_pattern(pattern)
    if not is_within(limit, 1, MOST_STANDS):
        raise BadNumber(limit)
    halls = Halls(rule, pattern)
    sources = reached_stands(halls, limit)
    held = [[] for _ in range(halls.many)]
    number = 0
    worst_row = None
    for row in sources:
        hall, (carries, banks) = row
        held[hall].append(row[1])
        if hall >= halls.singles and 1 not in carries and crowd_of(banks) > number:
            number = crowd_of(banks)
            worst_row = row
    levels = [tuple(stands) for stands in held]
    return Shared(number, start_to(sources, worst_row), tuple(levels[:halls.singles]), tuple(levels[halls.singles:]))


def worst(rule, lanes, stride, limit=5000):
    """What shared tells of so many lanes at a stride."""
    check_rule(rule)
    return shared(rule, Pattern.strided(lanes, stride), limit)


def reached_stands(halls, limit):
    """The dict from the pairs of a hall and a stand that come to the pair and the digit that lead there.

    The first one is led to by None. More of them than limit are refused.
    """
    order = [(0, halls.first)]
    sources = {order[0]: None}
    at = 0
    while at < len(order):
        if len(order) > limit:
            raise TooMany("stands", limit)
        hall, stand = order[at]
        for digit in (0, 1):
            end = (halls.hall_behind(hall), halls.stand_behind(hall, stand, digit))
            if end not in sources:
                sources[end] = (order[at], digit)
                order.append(end)
        at += 1
    return sources


def start_to(sources, row):
    """The start whose digits lead to a pair of a hall and a stand."""
    start = 0
    end = row
    while sources[end] is not None:
        end, digit = sources[end]
        start = 2 * start + digit
    return start
