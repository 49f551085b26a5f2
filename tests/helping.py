"""What several tests use: any values, errors as plain values, random sets and rules, plain oracles."""

import random

from lanebanks.compared import Freer, Parted, Told
from lanebanks.desk import Desk
from lanebanks.errors import BadRule, BankError
from lanebanks.distances import Meets, Never
from lanebanks.made import Padded, Unweighted
from lanebanks.memory import Memory, Served
from lanebanks.rules import Rule
from lanebanks.seen import Found, Log, Shape
from lanebanks.sets import NumberSet
from lanebanks.tiles import Clear, Jam, Pattern
from lanebanks.units import Clash, Free
from lanebanks.worst import Shared

DEEP = [[[[[[[[1]]]]]]]]
ANY = [
    None, True, False, 0, 1, 2, -1, 33, 10 ** 40, 10 ** 40 + 1, -(10 ** 40), "", "a", "0", "12", "two words", "line\n",
    "x" * 4000, (), (1,), (1, 2), [], [1, 2], [None, [True, "z"]], {}, {"a": 1}, {1: [2, {3: ()}]}, DEEP,
    NumberSet.every(), Rule.modulo(4), Meets(1), Never((), ()), BadRule("x"), Pattern(0, 3), Clear({}), Jam(0, 0, 1),
    Free(()), Clash(1, 2, 0, 1), Shared(1, 0, (), ()), Told({0: 0}), Freer(1, ()),
    Parted(0, 1), Padded(0, (), ()), Unweighted(()), Log(), Log((0, 1, False)), Shape((2,), 1, 1),
    Found(Rule.modulo(2), Log()), Served((), 0), Memory(Rule.modulo(2)), Desk(),
]


def told(work, *values, **named):
    """The class and the attributes of the BankError that a call raises; "none" if it raises none."""
    try:
        work(*values, **named)
    except BankError as error:
        return type(error), vars(error)
    return "none"


def same(one, other):
    """Whether values are equal and of the same kinds throughout."""
    if type(one) is not type(other):
        return False
    if isinstance(one, (list, tuple)):
        return len(one) == len(other) and all(same(a, b) for a, b in zip(one, other))
    if isinstance(one, dict):
        return len(one) == len(other) and all(same(list(a), list(b)) for a, b in zip(one.items(), other.items()))
    return one is other or one == other


def without(test, values=None):
    """All of the values of ANY for which a test does not hold."""
    return [value for value in (ANY if values is None else values) if not test(value)]


def whole(value, least, most):
    """Whether a value is an integer within bounds, told by its kind."""
    return type(value) is int and least <= value <= most


def random_table(rng, many):
    """Random nexts and marks of a digit set."""
    marks = [rng.random() < 0.5 for _ in range(many)]
    zeros = [[at for at in range(many) if marks[at] == mark] for mark in marks]
    return [(rng.choice(zeros[at]), rng.randrange(many)) for at in range(many)], marks


def random_set(rng, most=6):
    """A random digit set of few states."""
    return NumberSet(*random_table(rng, rng.randint(1, most)))


def plain_member(nexts, marks, number):
    """Whether a number is in the set of a table, digit by digit."""
    state = 0
    while number:
        state = nexts[state][number % 2]
        number //= 2
    return marks[state]


def listed(one, below):
    """The numbers of a set below a bound: the states behind more and more digits of all numbers."""
    ends = [0]
    while len(ends) < below:
        ends = [one.nexts[state][0] for state in ends] + [one.nexts[state][1] for state in ends]
    return [number for number in range(below) if one.marks[ends[number]]]


def random_rule(rng, moduli=None, ahead=4, turn=4):
    """A random rule with few places."""
    if moduli is None:
        moduli = rng.choice([(2,), (3,), (4,), (5,), (2, 2), (2, 3), (3, 2, 2)])
    banks = 1
    for modulus in moduli:
        banks *= modulus
    first = [rng.randrange(banks) for _ in range(rng.randint(0, ahead))]
    return Rule(moduli, first, [rng.randrange(banks) for _ in range(rng.randint(1, turn))])


def plain_parts(moduli, bank):
    """The parts of a bank, one by one."""
    parts = []
    for modulus in moduli:
        parts.append(bank % modulus)
        bank //= modulus
    return parts


def plain_bank(moduli, ahead, turn, address):
    """The bank of an address as the definition tells it."""
    sums = [0] * len(moduli)
    place = 0
    while address >> place:
        if address >> place & 1:
            weight = ahead[place] if place < len(ahead) else turn[(place - len(ahead)) % len(turn)]
            sums = [(a + b) % m for a, b, m in zip(sums, plain_parts(moduli, weight), moduli)]
        place += 1
    bank, size = 0, 1
    for part, modulus in zip(sums, moduli):
        bank += part * size
        size *= modulus
    return bank


def rng_of(seed):
    """A row of chances that is the same at each run."""
    return random.Random(seed)


def wrong_word(words, stands, ends):
    """The index of the first word that cannot stand, the number of words if one is missing, None if none is.

    stands tells whether words are a whole text; ends are what can follow words that may stand.
    """
    for at in range(len(words)):
        if not any(stands(words[:at + 1] + end) for end in ends):
            return at
    return None if stands(words) else len(words)


def plain_row(rule, pair, places, start, stride):
    """What matters behind some places of a start and a stride: the carries of two lanes, and the bank between."""
    size = 2 ** places
    ends = [start % size + lane * (stride % size) for lane in pair]
    one, other = [plain_parts(rule.moduli, plain_bank(rule.moduli, rule.ahead, rule.turn, end % size)) for end in ends]
    bank, many = 0, 1
    for a, b, modulus in zip(one, other, rule.moduli):
        bank += (b - a) % modulus * many
        many *= modulus
    return ends[0] // size, ends[1] // size, bank


def banks_seen(rule, start, offsets):
    """The banks of a start plus offsets, as the definition tells them."""
    return [plain_bank(rule.moduli, rule.ahead, rule.turn, start + offset) for offset in offsets]


def cut_rule(rng, moduli=None, ahead=4):
    """A random rule whose weights are 0 from a place on, and the number of starts that make a round of it."""
    rule = random_rule(rng, moduli, ahead, 1)
    return rule.cut(ahead), 2 ** ahead


def changed(value, rng, fresh):
    """A nested tuple with one part at any depth left out, put in, doubled, exchanged or turned about."""
    if not isinstance(value, tuple) or (value and rng.random() < 0.1):
        return rng.choice(fresh)
    if value and isinstance(value[0], tuple) and rng.random() < 0.7:
        at = rng.randrange(len(value))
        return value[:at] + (changed(value[at], rng, fresh),) + value[at + 1:]
    at = rng.randrange(len(value) + 1)
    kind = rng.randrange(5)
    if kind == 0:
        return value[:at] + value[at + 1:]
    if kind == 1:
        return value[:at] + (rng.choice(fresh),) + value[at:]
    if kind == 2:
        return value[:at] + value[at:at + 1] + value[at:]
    if kind == 3:
        return value[:at] + (rng.choice(fresh),) + value[at + 1:]
    return value[::-1]
