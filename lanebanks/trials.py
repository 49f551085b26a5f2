"""Blocks of work behind which all is as when they began."""


class Kept:
    """A state that a block keeps, and what it kept ahead of this one."""

    def __init__(self, state, below):
        self.state = state
        self.below = below


class Trial:
    """A block of work on a holder of a state: in it the holder has a copy of the state."""

    def __init__(self, holder):
        self.holder = holder
        self.kept = None

    def __enter__(self):
        holder = self.holder
        self.kept = Kept(holder.state, self.kept)
        holder.state = holder.state.copied()
        return holder

    def __exit__(self, kind, value, trace):
        holder = self.holder
        holder.state = self.kept.state
        self.kept = self.kept.below
