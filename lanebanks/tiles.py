"""Patterns of addresses that are wanted at once, and whether they ever meet in a bank."""

from lanebanks.checks import is_integer, is_number, is_within
from lanebanks.distances import GREATEST, Meets, check_limit, check_rule, paper_of
from lanebanks.errors import BadNumber, BadText, BadTile, TooMany
from lanebanks.growing import limited_set
from lanebanks.listing import least_from
from lanebanks.pair_rows import leads_of
from lanebanks.pitches import pitch_table
from lanebanks.verdicts import Verdict
from lanebanks.wording import whole_in

MOST_OFFSETS = 32
GREATEST_STEP = 10 ** 28
MOST_STATES = 2000


class Pattern:
    """Addresses that are wanted at once, told as offsets from a start."""

    def __init__(self, *offsets):
        for at, offset in enumerate(offsets):
            if not is_within(offset, 0, GREATEST):
                raise BadTile(at)
        if len(offsets) == 0:
            raise BadTile("offsets")
        self.offsets = tuple(sorted(set([int(offset) for offset in offsets])))
        if len(self.offsets) > MOST_OFFSETS:
            raise TooMany("offsets", MOST_OFFSETS)

    @staticmethod
    def strided(lanes, stride):
        """The offsets 0, stride, 2 strides and so on, as many as lanes."""
        if not is_within(lanes, 1, MOST_OFFSETS):
            raise BadTile("lanes")
        if not is_within(stride, 0, GREATEST_STEP):
            raise BadTile("stride")
        offsets = [lane * stride for lane in range(lanes)]
        return Pattern(*offsets)

    @staticmethod
    def tiled(width, height, pitch):
        """The offsets x + y * pitch for x below width and y below height."""
        if not is_within(width, 1, MOST_OFFSETS):
            raise BadTile("width")
        if not is_within(height, 1, MOST_OFFSETS):
            raise BadTile("height")
        if not is_within(pitch, 0, GREATEST_STEP):
            raise BadTile("pitch")
        offsets = [x + y * pitch for y in range(height) for x in range(width)]
        return Pattern(*offsets)

    @classmethod
    def read(cls, text):
        """The pattern with this text."""
        if not isinstance(text, str):
            raise BadText(0, 0)
        offsets = []
        for at, word in enumerate(text.split(" ")):
            offset = whole_in(word, GREATEST)
            if offset is None or at >= MOST_OFFSETS or (offsets and offset <= offsets[-1]):
                raise BadText(0, at)
            offsets.append(offset)
        return cls(*offsets)

    def __str__(self):
        return " ".join([str(offset) for offset in self.offsets])

    def __eq__(self, other):
        return isinstance(other, Pattern) and self.offsets == other.offsets

    def __len__(self):
        return len(self.offsets)

    def __iter__(self):
        return iter(self.offsets)

    def __contains__(self, x):
        return is_integer(x) and x in self.offsets

    def __or__(self, other):
        if not isinstance(other, Pattern):
            raise BadTile("other")
        offsets = self.offsets + other.offsets
        return Pattern(*offsets)

    def __le__(self, other):
        if not isinstance(other, Pattern):
            raise BadTile("other")
        return all([offset in other.offsets for offset in self.offsets])

    def __add__(self, other):
        if not is_within(other, 0, GREATEST):
            raise BadNumber(other)
        offsets = [offset + other for offset in self.offsets]
        return Pattern(*offsets)

    def gaps(self):
        """The ascending tuple of all differences above 0 of two offsets."""
        pairs = [(one, other) for at, one in enumerate(self.offsets) for other in self.offsets[at + 1:]]
        return tuple(sorted(set([int(other - one) for one, other in pairs])))


class Clear(Verdict):
    """The paper of a pattern of which no two addresses ever meet: for each gap that it is no distance."""

    def __init__(self, papers):
        self.papers = papers

    def __eq__(self, other):
        return isinstance(other, Clear) and self.papers == other.papers

    def __bool__(self):
        return True


class Jam(Verdict):
    """The paper of a pattern that is not clear: a start at which two of its addresses meet."""

    def __init__(self, start, one, other):
        self.start = start
        self.one = one
        self.other = other

    def __eq__(self, other):
        return (isinstance(other, Jam) and self.start == other.start and self.one == other.one
                and self.other == other.other)

    def __bool__(self):
        return False


def check_pattern(pattern):
    """Raise for a value that is no pattern."""
    if not isinstance(pattern, Pattern):
        raise BadTile("pattern")


def check_tile(width, height):
    """Raise for values that are no width and height of a tile of few cells."""
    if not is_within(width, 1, 8):
        raise BadTile("width")
    if not is_within(height, 1, 8) or width * height > 16:
        raise BadTile("height")


def clear(rule, pattern):
    """Whether no two addresses of a pattern meet at any start: Clear or Jam."""
    check_rule(rule)
    check_pattern(pattern)
    leads = leads_of(rule)
    papers = {}
    for gap in pattern.gaps():
        paper = paper_of(rule, leads, gap)
        if isinstance(paper, Meets):
            return jam_of(pattern, gap, paper.start)
        papers[gap] = paper
    return Clear(papers)


def jam_of(pattern, gap, start):
    """The Jam of two offsets with this gap, for an address that is in one bank with the one a gap above it."""
    one = [offset for offset in pattern.offsets if offset + gap in pattern.offsets][0]
    address = start
    if address < one:
        # These two addresses meet as well if both are moved by a power of 2 beyond their digits.
        address = address + (1 << (start + gap + one).bit_length())
    return Jam(address - one, one, one + gap)


def free_pitches(rule, width, height, limit=2000):
    """The set of the pitches at which a tile is clear."""
    check_rule(rule)
    check_tile(width, height)
    check_limit(limit)
    nexts, marks = pitch_table(rule, width, height)
    return limited_set(nexts, marks, limit)


def next_pitch(rule, width, height, begin=0):
    """The least pitch from begin on at which a tile is clear, None if there is none."""
    check_rule(rule)
    check_tile(width, height)
    if not is_number(begin):
        raise BadNumber(begin)
    nexts, marks = pitch_table(rule, width, height)
    pitches = limited_set(nexts, marks, MOST_STATES)
    return least_from(pitches.nexts, pitches.marks, begin)
