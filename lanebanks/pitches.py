"""The pitches at which a tile is clear, as tables of states."""

from lanebanks.distances import paper_of
from lanebanks.lane_sets import meeting_table
from lanebanks.making import table_between, table_of_numbers
from lanebanks.pair_rows import leads_of
from lanebanks.sets import NumberSet
from lanebanks.solving import joined_table, solved_table


def pitch_table(rule, width, height):
    """The normal form of the set of the pitches at which a tile of this width and height is clear."""
    leads = leads_of(rule)
    jammed = [pitch for pitch in range(width) if is_jammed(rule, leads, gaps_at(width, height, pitch))]
    if is_jammed(rule, leads, list(range(1, width))):
        far = table_between(0, None)
    elif height == 1:
        far = table_of_numbers([])
    elif width * height > rule.banks:
        # From the width on there are more unlike addresses than banks.
        far = table_between(width, None)
    else:
        far = far_table(rule, width, height)
    nexts, marks = joined_table(far, table_of_numbers(jammed))
    return nexts, tuple([not mark for mark in marks])


def gaps_at(width, height, pitch):
    """All differences above 0 of two addresses of a tile."""
    gaps = [abs(x + y * pitch) for x in range(1 - width, width) for y in range(height)]
    return sorted(set([int(gap) for gap in gaps if gap > 0]))


def is_jammed(rule, leads, gaps):
    """Whether any of these gaps is a distance."""
    return any([bool(paper_of(rule, leads, gap)) for gap in gaps])


def far_table(rule, width, height):
    """The normal form of the set of the pitches at which two cells of unlike rows of a tile are a distance apart."""
    nexts, marks = meeting_table(rule, 0, 1, NumberSet.every())
    near = (nexts, marks)
    for x in range(1 - width, width):
        near = joined_table(near, solved_table(nexts, marks, 1, x))
    near_nexts, near_marks = near
    far = table_of_numbers([])
    for y in range(1, height):
        far = joined_table(far, solved_table(near_nexts, near_marks, y, 0))
    return far
