"""A looker at the papers of how many addresses share a bank: it walks them, and searches nothing."""

from lanebanks.checks import is_integer, is_number
from lanebanks.distances import check_rule
from lanebanks.kinds import are_tuples, is_row_below
from lanebanks.stands import Halls, crowd_of
from lanebanks.tiles import check_pattern
from lanebanks.worst import Shared


def shows_shared(rule, pattern, value):
    """Whether any value is a right paper of how many addresses of a pattern share a bank."""
    check_rule(rule)
    check_pattern(pattern)
    if not isinstance(value, Shared) or not is_integer(value.number) or not is_number(value.start):
        return False
    if crowd_of([rule(value.start + offset) for offset in pattern.offsets]) != value.number:
        return False
    halls = Halls(rule, pattern)
    if not are_tuples(value.stands, halls.singles) or not are_tuples(value.behind, halls.many - halls.singles):
        return False
    levels = value.stands + value.behind
    if not all([is_stand(halls, stand) for level in levels for stand in level]):
        return False
    held = [{stand: True for stand in level} for level in levels]
    if halls.first not in held[0]:
        return False
    if not all([goes_on(halls, held, hall, stand) for hall in range(halls.many) for stand in held[hall]]):
        return False
    return all([1 in carries or crowd_of(banks) <= value.number for level in value.behind for carries, banks in level])


def is_stand(halls, value):
    """Whether any value is a tuple of a tuple of carries and one of banks, with an entry for each offset."""
    if not are_tuples(value, 2):
        return False
    many = len(halls.offsets)
    return is_row_below(value[0], (2,) * many) and is_row_below(value[1], (halls.bank_rule.banks,) * many)


def goes_on(halls, held, hall, stand):
    """Whether both digits of a start lead from a stand to stands that are held."""
    behind = held[halls.hall_behind(hall)]
    return all([halls.stand_behind(hall, stand, digit) in behind for digit in (0, 1)])
