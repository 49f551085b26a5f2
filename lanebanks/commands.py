"""The lines of a desk: which words can stand in them, and what they tell."""

from lanebanks.checks import is_name
from lanebanks.distances import GREATEST
from lanebanks.errors import BadCommand, BadText
from lanebanks.rules import Rule
from lanebanks.wording import signed_in, whole_in

# For each first word a letter for each word behind it: A and M are names that stand for a rule and a memory,
# a and m are names that need not, N and W are numbers, without and with a sign, R is the text of a rule.
FORMS = {
    "rule": "aR", "modulo": "aN", "xor": "aNN", "padded": "aNNN", "join": "aAA", "sum": "aAA", "shift": "AN",
    "cut": "AN", "memory": "mAN", "store": "MNW", "load": "MNN", "unit": "MNN", "back": "M", "undo": "", "show": "A",
    "clock": "M", "word": "MN", "names": "", "bank": "AN", "free": "ANN", "next": "ANN", "count": "ANN",
    "clash": "ANNN", "distance": "AN", "tells": "AA", "same": "AA", "order": "AAN", "worst": "ANN",
}


def words_of(line):
    """The words of a line; refused if it is no string or has another first word."""
    if not isinstance(line, str):
        raise BadCommand(0)
    words = line.split(" ")
    if words[0] not in FORMS:
        raise BadCommand(0)
    return words


def parts_of_line(words):
    """The pairs of a letter and what is told there, for the words behind the first one: names as they stand."""
    form = FORMS[words[0]]
    parts = []
    for at, letter in enumerate(form, 1):
        told = rule_from(words, at) if letter == "R" else told_by(letter, words[at:at + 1])
        if told is None:
            raise BadCommand(at)
        parts.append((letter, told))
    if len(words) > 1 + len(form) and form[-1:] != "R":
        raise BadCommand(1 + len(form))
    return parts


def rule_from(words, at):
    """The rule whose text begins at an index."""
    try:
        return Rule.read(" ".join(words[at:]))
    except BadText as error:
        raise BadCommand(at + error.word)


def told_by(letter, words):
    """What the first one of these words tells, None if there is none or if it cannot stand for the letter."""
    if not words:
        return None
    if letter == "N":
        return whole_in(words[0], GREATEST)
    if letter == "W":
        return signed_in(words[0], GREATEST)
    return words[0] if is_name(words[0]) else None
