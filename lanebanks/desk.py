"""Desks: rules and memories that have names, and lines of words that are done and answered."""

from lanebanks.answers import ASKING, DOING, MAKING
from lanebanks.commands import parts_of_line, words_of
from lanebanks.desk_state import DeskState, names_in
from lanebanks.trials import Trial


class Desk:
    """Rules and memories by their names, and which lines can be taken back."""

    def __init__(self):
        self.state = DeskState({}, {}, [])

    def __call__(self, line):
        return self.say(line)

    def __len__(self):
        return len(self.state.done)

    def say(self, line):
        """Do what a line tells, and answer it."""
        words = words_of(line)
        values = self.state.values_of(parts_of_line(words))
        word = words[0]
        if word in ASKING:
            asked = ASKING[word]
            return asked(*values)
        if word in DOING:
            done = DOING[word]
            answer = done(*values)
            self.state.did(words[1])
            return answer
        if word in MAKING:
            made = MAKING[word]
            self.state.bind_rule(words[1], made(*values))
            return "ok"
        return self.say_other(words, values)

    def say_other(self, words, values):
        """Do what one of the lines tells that regard the state of the desk."""
        if words[0] == "memory":
            self.state.bind_memory(words[1], values[0], values[1])
            return "ok"
        if words[0] == "back":
            return self.state.take_back(words[1])
        if words[0] == "undo":
            return "ok" if self.state.undo() else "nothing"
        return self.state.names_line()

    def run(self, *lines):
        """The list of the answers to some lines; if one is refused, none of them is done."""
        kept = self.state
        self.state = kept.copied()
        try:
            answers = [self.say(line) for line in lines]
            kept = self.state
        finally:
            self.state = kept
        return answers

    def all_rules(self):
        """The dict from the names to the rules."""
        return {name: self.state.rules[name] for name in names_in(self.state.rules)}

    def all_memories(self):
        """The dict from the names to twins of the memories."""
        return {name: self.state.memories[name].twin() for name in names_in(self.state.memories)}

    def trial(self):
        """A block of work behind which all is as when it began."""
        return Trial(self)

    def tried(self, work):
        """What work tells of this desk; then all is as before."""
        with self.trial() as same:
            return work(same)
