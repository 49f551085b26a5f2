"""Tables of simple digit sets: a state stands for the numbers that its further digits may make."""

from lanebanks.tables import grown_table


def table_of_numbers(numbers, most=None):
    """The table and the marks for these numbers; refused if the normal form has more than most states.

    A state is the ascending tuple of what may come, so no two states are alike.
    """
    first = tuple(sorted(set([int(number) for number in numbers])))
    return grown_table(first, halved, has_zero, most)


def halved(numbers, digit):
    """What is left of the numbers that begin with a digit, behind it."""
    return tuple([number // 2 for number in numbers if number % 2 == digit])


def has_zero(numbers):
    """Whether 0 is one of these ascending numbers."""
    return len(numbers) > 0 and numbers[0] == 0


def table_between(low, high):
    """The table and the marks for the numbers from low to high - 1, high being None without an end."""
    return grown_table((low, high), bounds_behind, bounds_hold_zero)


def bounds_behind(bounds, digit):
    """The bounds of what may come behind a digit."""
    low, high = bounds
    return (low + 1 - digit) // 2, None if high is None else (high + 1 - digit) // 2


def bounds_hold_zero(bounds):
    """Whether 0 is within these bounds."""
    low, high = bounds
    return low == 0 and (high is None or high > 0)


def table_of_multiples(step, rest):
    """The table and the marks for the numbers with the remainder rest by step."""
    return grown_table((step, rest), remainder_behind, is_no_rest)


def remainder_behind(row, digit):
    """By which number what comes behind a digit must leave which remainder; (0, 1) if nothing may come."""
    step, rest = row
    if step % 2 == 1:
        return step, (rest - digit) * ((step + 1) // 2) % step
    if step == 0 or rest % 2 != digit:
        return 0, 1
    return step // 2, (rest - digit) // 2


def is_no_rest(row):
    """Whether 0 has the remainder that is asked for."""
    return row[1] == 0
