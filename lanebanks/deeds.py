"""What stands in a memory, and the deeds that can be taken back.

A deed is a tuple of its word, the address of a store, what stood before it and what stands behind it:
words for a store, rules for a swap, clocks for what loads.
"""

from lanebanks.errors import Nothing


class MemoryState:
    """The rule of a memory, the words that are not 0, the clock, and the deeds."""

    def __init__(self, by, held, ticks, deeds):
        self.by = by
        self.held = held
        self.ticks = ticks
        self.deeds = deeds

    def copied(self):
        """A state that stands as this one and goes its own way."""
        return MemoryState(self.by, self.held.copy(), self.ticks, list(self.deeds))

    def put(self, word, address, value):
        """Let a value stand in the place that deeds with a word change."""
        if word == "swap":
            self.by = value
        elif word != "store":
            self.ticks = value
        elif value != 0:
            self.held[address] = value
        elif address in self.held:
            del self.held[address]

    def do(self, deed):
        """Do a deed, so that it can be taken back."""
        word, address, _, behind = deed
        self.put(word, address, behind)
        self.deeds.append(deed)

    def take_back(self):
        """Take the last deed back, and return it."""
        if not self.deeds:
            raise Nothing()
        deed = self.deeds.pop()
        word, address, before, _ = deed
        self.put(word, address, before)
        return deed
