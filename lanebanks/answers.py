"""What the lines of a desk call: what makes rules, what memories do, and what is asked, answered as texts."""

from lanebanks.compared import order, same_banks, tells
from lanebanks.distances import distance
from lanebanks.rules import Rule
from lanebanks.units import first_clash, free_strides, is_free
from lanebanks.worst import worst


def read_rule(rule):
    """The rule itself, which was read already."""
    return rule


def modulo_rule(banks):
    """The rule of addresses modulo banks."""
    return Rule.modulo(banks)


def xor_rule(bits, folds):
    """The rule of parities."""
    return Rule.xor(bits, folds)


def padded_rule(banks, every, pad):
    """The rule of padded addresses."""
    return Rule.padded(banks, every, pad)


def joined_rule(one, other):
    """The rule with the parts of both."""
    return one * other


def added_rule(one, other):
    """The rule whose bank is the sum of both."""
    return one + other


def shifted_rule(rule, number):
    """The rule of addresses without so many digits."""
    return rule << number


def cut_rule(rule, number):
    """The rule with the weight 0 from a place on."""
    return rule.cut(number)


def store_word(memory, address, word):
    """Store a word."""
    memory.store(address, word)
    return "ok"


def load_words(memory, one, other):
    """Both words and the ticks."""
    served = memory.load(one, other)
    return f"{served.loaded[0]} {served.loaded[1]} in {served.ticks}"


def load_lanes(memory, start, stride):
    """The ticks of a unit."""
    served = memory.load_unit(start, stride)
    return str(served.ticks)


def rule_told(rule):
    """The text of a rule."""
    return str(rule)


def clock_told(memory):
    """The clock of a memory."""
    return str(memory.clock)


def word_told(memory, address):
    """The word at an address."""
    return str(memory[address])


def bank_told(rule, address):
    """The bank of an address."""
    return str(rule(address))


def free_told(rule, lanes, stride):
    """Whether a stride is free."""
    return "yes" if is_free(rule, lanes, stride) else "no"


def next_told(rule, lanes, number):
    """The least free stride from a number on."""
    stride = free_strides(rule, lanes).next_from(number)
    return "-" if stride is None else str(stride)


def count_told(rule, lanes, below):
    """How many strides below a number are free."""
    return str(free_strides(rule, lanes).count(below))


def clash_told(rule, lanes, stride, start):
    """The first two lanes that meet."""
    pair = first_clash(rule, lanes, stride, start)
    return "-" if pair is None else f"{pair[0]} {pair[1]}"


def distance_told(rule, d):
    """Whether addresses so far apart meet, and where."""
    paper = distance(rule, d)
    return f"meets {paper.start}" if paper else "never"


def tells_told(one, other):
    """Whether one rule tells the other one."""
    paper = tells(one, other)
    return "yes" if paper else f"no {paper.first} {paper.second}"


def same_told(one, other):
    """Whether two rules put the same addresses together."""
    paper = same_banks(one, other)
    return "yes" if paper else f"no {paper.first} {paper.second}"


def order_told(one, other, lanes):
    """How the free strides of two rules stand to each other."""
    return order(one, other, lanes)


def worst_told(rule, lanes, stride):
    """How many lanes share a bank at the worst start."""
    return str(worst(rule, lanes, stride).number)


MAKING = {
    "rule": read_rule, "modulo": modulo_rule, "xor": xor_rule, "padded": padded_rule, "join": joined_rule,
    "sum": added_rule, "shift": shifted_rule, "cut": cut_rule,
}
DOING = {"store": store_word, "load": load_words, "unit": load_lanes}
ASKING = {
    "show": rule_told, "clock": clock_told, "word": word_told, "bank": bank_told, "free": free_told, "next": next_told,
    "count": count_told, "clash": clash_told, "distance": distance_told, "tells": tells_told, "same": same_told,
    "order": order_told, "worst": worst_told,
}
