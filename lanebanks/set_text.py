"""How a digit set stands in a text."""

from lanebanks.errors import BadText
from lanebanks.wording import whole_in


def state_text(ends, mark):
    """The words of a state."""
    sign = "+" if mark else "-"
    return f"{ends[0]} {ends[1]} {sign}"


def can_stand(at, word, most):
    """Whether a word with this index can stand in the text of a set of at most so many states."""
    if at % 4 == 2:
        return word in ("+", "-")
    if at % 4 == 3:
        return word == "/" and at < 4 * most - 1
    return whole_in(word, most - 1) is not None


def read_states(text, most):
    """The nexts and the marks that a text tells, for at most so many states."""
    if not isinstance(text, str):
        raise BadText(0, 0)
    words = text.split(" ")
    for at, word in enumerate(words):
        if not can_stand(at, word, most):
            raise BadText(0, at)
    if len(words) % 4 != 3:
        raise BadText(0, len(words))
    nexts = [(int(words[at]), int(words[at + 1])) for at in range(0, len(words), 4)]
    return nexts, [words[at] == "+" for at in range(2, len(words), 4)]
