"""Whether lanes meet at one stride and any of the starts of a set, for all pairs of lanes at once.

Behind some places starts are told apart by the carries of all lanes and the state of the starts. For
each of these an integer, a mask, holds by its digits what comes up: it has a block for each pair of
lanes, and in a block a digit for each bank by which the bank of the other lane can be more.
"""

from lanebanks.banks import parts_of
from lanebanks.distances import paper_of
from lanebanks.lane_rows import classes_before
from lanebanks.pair_rows import leads_of
from lanebanks.tables import live_states, sources_of

# Behind so many zeros of the stride all carries, of up to 16 lanes, are at most 1.
ZEROS = 4


class Blocks:
    """Masks with a block for each of some pairs of lanes."""

    def __init__(self, rule, pairs):
        self.pairs = pairs
        self.size = rule.banks
        weights = rule.ahead + rule.turn
        self.moves_up = [self.moves_by(rule, weight) for weight in weights]
        self.moves_down = [self.moves_by(rule, rule.less(0, weight)) for weight in weights]

    def in_all(self, mask, is_chosen):
        """The mask in each block that is chosen."""
        joined = 0
        for at, chosen in enumerate(is_chosen):
            if chosen:
                joined = joined | mask << at * self.size
        return joined

    def chosen_by(self, digits):
        """All of the blocks in which two lanes have equal digits; the other one, the first one alone the digit 1."""
        full = (1 << self.size) - 1
        changes = [digits[other] - digits[one] for one, other in self.pairs]
        return [self.in_all(full, [change == which for change in changes]) for which in (0, 1, -1)]

    def mask_behind(self, mask, number, chosen):
        """The mask behind a place of the class number, for what chosen_by tells of the digits at it."""
        same, more, less = chosen
        return mask & same | moved(mask & more, self.moves_up[number]) | moved(mask & less, self.moves_down[number])

    def moves_by(self, rule, weight):
        """How masks are moved if a weight is added to all banks: what goes up or down, and how far."""
        moves = []
        size = 1
        every = [True for _ in self.pairs]
        for modulus, part in zip(rule.moduli, parts_of(rule.moduli, weight)):
            if part > 0:
                is_low = [bank // size % modulus < modulus - part for bank in range(rule.banks)]
                low = sum([1 << bank for bank in range(rule.banks) if is_low[bank]])
                high = (1 << rule.banks) - 1 - low
                moves.append((self.in_all(low, every), self.in_all(high, every), part * size, (modulus - part) * size))
            size = size * modulus
        return moves


def moved(mask, moves):
    """A mask with all its digits moved so."""
    end = mask
    for low, high, up, down in moves:
        end = (end & low) << up | (end & high) >> down
    return end


def meets_at(rule, lanes, stride, starts):
    """Whether any two lanes meet at a stride above 0 and one of these starts."""
    live = live_states(starts.nexts, starts.marks)
    if not live[0]:
        return False
    # With more lanes than banks two of them meet at each start.
    if lanes > rule.banks:
        return True
    leads = leads_of(rule)
    gaps = [gap for gap in range(1, lanes) if paper_of(rule, leads, gap * stride)]
    if not gaps:
        return False
    pairs = [(one, one + gap) for gap in gaps for one in range(lanes - gap)]
    blocks = Blocks(rule, pairs)
    places = stride.bit_length() + ZEROS
    held = {(0,) * lanes: {0: blocks.in_all(1, [True for _ in pairs])}}
    for place in range(places):
        held = masks_behind(blocks, held, rule.class_of(place), stride >> place & 1, starts.nexts, live)
    endings = carried_endings(rule, blocks, starts.nexts, live)[rule.class_of(places)]
    return any([has_meeting(blocks, carries, masks, endings) for carries, masks in held.items()])


def masks_behind(blocks, held, number, step, nexts, live):
    """The masks behind one place more, of the class number, at which the stride has the digit step."""
    found = {}
    for carries, masks in held.items():
        for digit in (0, 1):
            totals = [digit + lane * step + carry for lane, carry in enumerate(carries)]
            behind = found.setdefault(tuple([total // 2 for total in totals]), {})
            chosen = blocks.chosen_by([total % 2 for total in totals])
            # Many states have the same mask, and moving it takes most of the time.
            known = {}
            for state, mask in masks.items():
                end = nexts[state][digit]
                if live[end]:
                    if mask not in known:
                        known[mask] = blocks.mask_behind(mask, number, chosen)
                    behind[end] = behind.get(end, 0) | known[mask]
    return found


def has_meeting(blocks, carries, masks, endings):
    """Whether lanes with these carries, at most 1, and masks by states meet, the stride being read."""
    equal = blocks.in_all(1, [carries[one] == carries[other] for one, other in blocks.pairs])
    unlike = blocks.in_all(1, [carries[one] != carries[other] for one, other in blocks.pairs])
    # A product with a mask of one block puts it into each block at whose beginning there is a 1.
    return any([mask & (equal | unlike * endings[state]) != 0 for state, mask in masks.items()])


def carried_endings(rule, blocks, nexts, live):
    """For each class and state the mask of the banks at which lanes meet if just the other one has a carry.

    The stride is read. Zeros of the start end the carry; ones go on with it to the next class.
    """
    weights = rule.ahead + rule.turn
    endings = [[1 << rule.less(0, weight) if live[ends[0]] else 0 for ends in nexts] for weight in weights]
    before = classes_before(rule)
    sources = sources_of(nexts, 1)
    waiting = [(number, state) for number in range(rule.classes) for state in range(len(nexts)) if live[state]]
    while waiting:
        behind, state = waiting.pop()
        for number in before[behind]:
            back = moved(endings[behind][state], blocks.moves_up[number])
            for source in sources[state]:
                if back | endings[number][source] != endings[number][source]:
                    endings[number][source] = back | endings[number][source]
                    waiting.append((number, source))
    return endings
