"""Logs of which addresses were seen in one bank, shapes of rules, and which rules of a shape fit a log."""

from lanebanks.banks import are_moduli, banks_by
from lanebanks.checks import is_within
from lanebanks.compared import same_banks
from lanebanks.distances import GREATEST, check_rule
from lanebanks.errors import BadLog, BadNumber, BadRule, TooMany
from lanebanks.rules import MOST_PLACES, Rule
from lanebanks.shape_rules import MOST_RULES, choices_of, claim_of, fits, rules_told

ENTRY_PARTS = 3


def is_entry(value):
    """Whether a value is a tuple of two addresses and whether they have one bank."""
    if not isinstance(value, tuple) or len(value) != ENTRY_PARTS:
        return False
    return is_within(value[0], 0, GREATEST) and is_within(value[1], 0, GREATEST) and isinstance(value[2], bool)


class Log:
    """Entries of two addresses and whether they have one bank."""

    def __init__(self, *entries):
        for at, entry in enumerate(entries):
            if not is_entry(entry):
                raise BadLog(at)
        self.entries = entries

    def __eq__(self, other):
        return isinstance(other, Log) and self.entries == other.entries

    def __len__(self):
        return len(self.entries)

    def __iter__(self):
        return iter(self.entries)

    def __add__(self, other):
        if not isinstance(other, Log):
            raise BadLog("other")
        entries = self.entries + other.entries
        return Log(*entries)

    def first_against(self, rule):
        """The index of the first entry that is not so by a rule, None if there is none."""
        check_rule(rule)
        for at, (first, second, met) in enumerate(self.entries):
            if is_alike(rule, first, second) != met:
                return at
        return None


class Shape:
    """All rules with some moduli whose weights so many places ahead and in the round can tell."""

    def __init__(self, moduli, ahead, turn):
        if not are_moduli(moduli):
            raise BadRule("moduli")
        if not is_within(ahead, 0, MOST_PLACES):
            raise BadNumber(ahead)
        if not is_within(turn, 1, MOST_PLACES - ahead):
            raise BadNumber(turn)
        if choices_of(banks_by(moduli), ahead + turn) > MOST_RULES:
            raise TooMany("rules", MOST_RULES)
        self.moduli = tuple(moduli)
        self.ahead = ahead
        self.turn = turn
        self._rules = rules_told(self.moduli, ahead, turn)

    def __eq__(self, other):
        return (isinstance(other, Shape) and self.moduli == other.moduli and self.ahead == other.ahead
                and self.turn == other.turn)

    def __iter__(self):
        return iter(self._rules)

    def __contains__(self, x):
        if not isinstance(x, Rule) or x.moduli != self.moduli:
            return False
        return len(x.ahead) <= self.ahead and self.turn % len(x.turn) == 0


class Found:
    """The paper of an unknown rule of a shape: a rule that puts the same addresses together, and what was asked."""

    def __init__(self, rule, log):
        self.rule = rule
        self.log = log

    def __eq__(self, other):
        return isinstance(other, Found) and self.rule == other.rule and self.log == other.log


def check_shape(shape):
    """Raise for a value that is no shape."""
    if not isinstance(shape, Shape):
        raise BadRule("shape")


def check_log(log):
    """Raise for a value that is no log."""
    if not isinstance(log, Log):
        raise BadLog("log")


def check_seen(address):
    """Raise for a value that is no address of a log."""
    if not is_within(address, 0, GREATEST):
        raise BadNumber(address)


def is_alike(rule, first, second):
    """Whether two addresses are in one bank by a rule."""
    return rule(first) == rule(second)


def fitting(shape, log):
    """The rules of a shape for which no entry of a log is otherwise, one by one, in the order of the shape."""
    check_shape(shape)
    check_log(log)
    # Many entries can say the same of all rules of the shape.
    claims = {(claim_of(shape, first, second), met): True for first, second, met in log.entries}
    for rule in shape:
        if fits(shape, rule, claims):
            yield rule


def surely(shape, log, first, second):
    """Whether two addresses have one bank by the rules that fit: met, apart or open; None if no rule fits."""
    check_shape(shape)
    check_log(log)
    check_seen(first)
    check_seen(second)
    rules = list(fitting(shape, log))
    if not rules:
        return None
    claims = [(claim_of(shape, first, second), True)]
    found = [fits(shape, rule, claims) for rule in rules]
    if all(found):
        return "met"
    return "open" if any(found) else "apart"


def told_back(shape, ask):
    """The rule of a shape by what ask tells of which addresses have one bank, as Found."""
    check_shape(shape)
    left = list(shape)
    entries = []
    alike = alike_first(left, 1)
    while alike < len(left):
        paper = same_banks(left[0], left[alike])
        first, second = paper.first, paper.second
        met = ask(first, second)
        if not isinstance(met, bool):
            raise BadLog(len(entries))
        entries.append((first, second, met))
        # With the first rule all those go or stay that put the same addresses together.
        known = alike if is_alike(left[0], first, second) == met else 1
        left = [rule for rule in left if is_alike(rule, first, second) == met]
        alike = alike_first(left, known)
    return Found(left[0], Log(*entries))


def alike_first(rules, known):
    """How many of the first rules put the same addresses together; so many are known to do so."""
    alike = known
    while alike < len(rules) and same_banks(rules[0], rules[alike]):
        alike += 1
    return alike


def shows_found(shape, value):
    """Whether any value is a right paper of an unknown rule of a shape."""
    check_shape(shape)
    if not isinstance(value, Found) or not isinstance(value.log, Log) or value.rule not in shape:
        return False
    if value.log.first_against(value.rule) is not None:
        return False
    rules = list(fitting(shape, value.log))
    for rule in rules:
        if not same_banks(value.rule, rule):
            return False
    return True
