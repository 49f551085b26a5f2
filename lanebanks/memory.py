"""Memories: words at addresses in banks, each of which gives one word a tick."""

from lanebanks.checks import is_within
from lanebanks.deeds import MemoryState
from lanebanks.errors import BadMemory, BadNumber, TooMany
from lanebanks.rules import Rule
from lanebanks.stands import crowd_of
from lanebanks.trials import Trial
from lanebanks.units import MOST_LANES, check_number

FAR = 10 ** 34
MOST_SWEPT = 2000


class Served:
    """The paper of a load: the words, and how many ticks it took."""

    def __init__(self, loaded, ticks):
        self.loaded = loaded
        self.ticks = ticks

    def __eq__(self, other):
        return isinstance(other, Served) and self.loaded == other.loaded and self.ticks == other.ticks


def check_address(address):
    """Raise for a value that is no address of a memory."""
    if not is_within(address, 0, FAR):
        raise BadNumber(address)


def check_banking(rule):
    """Raise for a value that is no rule of a memory."""
    if not isinstance(rule, Rule):
        raise BadMemory("rule")


def ticks_of(rule, addresses):
    """The greatest number of unlike addresses in one bank."""
    banks = [rule(address) for address in sorted(set([int(address) for address in addresses]))]
    return crowd_of(banks) if banks else 0


class Memory:
    """Words in banks, with a clock of the ticks of all loads, and deeds that can be taken back."""

    def __init__(self, rule, lanes=4):
        check_banking(rule)
        if not is_within(lanes, 2, MOST_LANES):
            raise BadMemory("lanes")
        self._lanes = lanes
        self.state = MemoryState(rule, {}, 0, [])

    @property
    def lanes(self):
        """How many words can be loaded at once."""
        return self._lanes

    @property
    def clock(self):
        """How many ticks all loads took."""
        return self.state.ticks

    @property
    def rule(self):
        """The rule that tells the banks."""
        return self.state.by

    @rule.setter
    def rule(self, value):
        self.swap(value)

    def __len__(self):
        return len(self.state.deeds)

    def __iter__(self):
        raise TypeError("a memory is not iterated over: take its words()")

    def __getitem__(self, at):
        check_address(at)
        return self.state.held.get(at, 0)

    def __setitem__(self, at, worth):
        self.store(at, worth)

    def store(self, address, word):
        """Store a word at an address."""
        check_address(address)
        if not is_within(word, -FAR, FAR):
            raise BadNumber(word)
        self.state.do(("store", address, self[address], word))

    def load(self, *addresses):
        """Load the words at these addresses at once, as Served."""
        for address in addresses:
            check_address(address)
        if len(addresses) > self.lanes:
            raise TooMany("lanes", self.lanes)
        ticks = ticks_of(self.rule, addresses)
        self.take_ticks("load", ticks)
        return Served(tuple([self[address] for address in addresses]), ticks)

    def take_ticks(self, word, ticks):
        """Do the deed of a word that takes so many ticks."""
        self.state.do((word, None, self.clock, self.clock + ticks))

    def load_unit(self, start, stride):
        """Load the words at start + i * stride for all lanes i, as Served."""
        check_number(start)
        check_number(stride)
        addresses = [start + lane * stride for lane in range(self.lanes)]
        return self.load(*addresses)

    def sweep(self, start, stride, many):
        """Load so many words from start on, a stride apart, as many at once as there are lanes; return the ticks."""
        check_number(start)
        check_number(stride)
        if not is_within(many, 0, MOST_SWEPT):
            raise BadNumber(many)
        addresses = [start + at * stride for at in range(many)]
        groups = [addresses[at:at + self.lanes] for at in range(0, many, self.lanes)]
        ticks = sum([ticks_of(self.rule, group) for group in groups])
        self.take_ticks("sweep", ticks)
        return ticks

    def swap(self, rule):
        """Take another rule; words stay at their addresses."""
        check_banking(rule)
        self.state.do(("swap", None, self.rule, rule))

    def words(self):
        """The pairs of an address and its word for all words that are not 0, ascending, one by one."""
        held = self.state.held
        # What is stored in the meantime does not change the pairs.
        pairs = [(address, held[address]) for address in sorted([int(address) for address in held])]
        for pair in pairs:
            yield pair

    def undo(self):
        """Take back the last deed that is not taken back, and return its word."""
        return self.state.take_back()[0]

    def trial(self):
        """A block of work behind which all is as when it began."""
        return Trial(self)

    def tried(self, work):
        """What work tells of this memory; then all is as before."""
        with self.trial() as same:
            return work(same)

    def twin(self):
        """A memory that stands as this one, with the same deeds to take back, and goes its own way."""
        memory = Memory(self.rule, self.lanes)
        memory.state = self.state.copied()
        return memory
