"""The least numbers that lead to the states of a digit set."""

from lanebanks.errors import BadSet
from lanebanks.listing import least_words
from lanebanks.sets import NumberSet


def words_to(number_set):
    """For each state the least number that leads to it with the fewest digits, as a tuple."""
    if not isinstance(number_set, NumberSet):
        raise BadSet("number_set")
    return least_words(number_set.nexts)
