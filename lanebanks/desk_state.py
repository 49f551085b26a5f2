"""What stands on a desk: rules and memories by their names, and the lines that can be taken back.

Such a line is a triple (kind, name, before): a rule or a memory that the name stood for, None if for none;
nothing for a deed, which the memory keeps; the deed that was taken back.
"""

from lanebanks.errors import NoName
from lanebanks.memory import Memory


class DeskState:
    """The rules, the memories, and the lines that can be taken back."""

    def __init__(self, rules, memories, done):
        self.rules = rules
        self.memories = memories
        self.done = done

    def copied(self):
        """A state that stands as this one and goes its own way."""
        memories = {name: memory.twin() for name, memory in self.memories.items()}
        return DeskState(self.rules.copy(), memories, list(self.done))

    def values_of(self, parts):
        """What the letters and words of a line stand for, without names that need not stand for anything."""
        values = []
        for letter, told in parts:
            if letter == "A":
                values.append(held_by(self.rules, told))
            elif letter == "M":
                values.append(held_by(self.memories, told))
            elif letter not in ("a", "m"):
                values.append(told)
        return values

    def bind_rule(self, name, rule):
        """Let a name stand for a rule."""
        self.done.append(("rule", name, self.rules.get(name)))
        self.rules[name] = rule

    def bind_memory(self, name, rule, lanes):
        """Let a name stand for a new memory."""
        memory = Memory(rule, lanes)
        self.done.append(("memory", name, self.memories.get(name)))
        self.memories[name] = memory

    def did(self, name):
        """Keep that a memory did a deed."""
        self.done.append(("deed", name, None))

    def take_back(self, name):
        """Take the last deed of a memory back, and return its word."""
        deed = self.memories[name].state.take_back()
        self.done.append(("back", name, deed))
        return deed[0]

    def undo(self):
        """Take the last line back, and return whether there was one."""
        if not self.done:
            return False
        kind, name, before = self.done.pop()
        if kind == "deed":
            self.memories[name].undo()
        elif kind == "back":
            self.memories[name].state.do(before)
        elif kind == "rule":
            put(self.rules, name, before)
        else:
            # The memory itself stays as it was: a copy of this state may come back to it.
            put(self.memories, name, None if before is None else before.twin())
        return True

    def names_line(self):
        """The names of the rules, and those of the memories."""
        sides = [" ".join(names_in(table)) if table else "-" for table in (self.rules, self.memories)]
        return " / ".join(sides)


def held_by(table, name):
    """What a name stands for; refused if for nothing."""
    if name not in table:
        raise NoName(name)
    return table[name]


def names_in(table):
    """The names of a table, ascending."""
    return sorted([str(name) for name in table])


def put(table, name, value):
    """Let a name stand for a value, for nothing if it is None."""
    if value is None:
        del table[name]
    else:
        table[name] = value
