"""The examples of the document, word for word."""

import unittest

SETS = r"""
>>> from lanebanks.members import words_to
>>> from lanebanks.normal import normal_form
>>> from lanebanks.sets import NumberSet
>>> evens, fours = NumberSet.multiples(2), NumberSet(((1, 3), (2, 3), (2, 2), (3, 3)), (True, True, True, False))
>>> [str(evens), str(fours), 6 in evens, 6 in fours, fours.within(evens), str(evens - fours), (evens ^ fours).least]
['1 2 + / 1 1 + / 2 2 -', '1 2 + / 3 2 + / 2 2 - / 3 3 +', True, False, True, '1 2 - / 2 3 - / 2 2 - / 3 3 +', 2]
>>> [list(NumberSet.of(9, 2, 2).members()), NumberSet.between(3, 6).greatest, (~evens).count(10 ** 30) == 5 * 10 ** 29, fours[5], evens.next_from(7), evens.greatest, (~NumberSet.between(3)).is_endless]
[[2, 9], 5, True, 20, 8, None, False]
>>> [fours.solved(3) == fours, evens.solved(1, 1) == ~evens, str(NumberSet.none()), str(NumberSet.every()), NumberSet.of(0).states, words_to(fours), normal_form([(1, 0), (0, 1)], [True, True])]
[True, True, '0 0 -', '0 0 +', 2, (0, 0, 1, 0), (((0, 0),), (True,))]
>>> NumberSet([(0, 1), (0, 1)], [True, False])
raises BadSet('zeros')
>>> fours[-1]
raises NoMember(-1)
>>> NumberSet.read("0 0 + / 1 1 -")
raises BadText(0, 0)
"""

RULES = r"""
>>> from lanebanks.rules import Rule
>>> pad, fold = Rule.padded(4, 2, 1), Rule.xor(2, 2)
>>> [str(pad), str(fold), str(Rule.modulo(12)), str(Rule.xor(1)), [pad(address) for address in (1, 2, 3, 4, 16)], fold(7), fold(8)]
['moduli 4 ahead 1 2 1 2 round 0', 'moduli 2 2 ahead 1 2 1 2 round 0', 'moduli 12 ahead 1 2 round 4 8', 'moduli 2 ahead - round 1', [1, 2, 3, 1, 0], 2, 2]
>>> [Rule((4,), [1, 2, 1], [2, 0, 0]) == Rule((4,), [1, 2, 1, 2], [0]), Rule((4,), [1, 2], (1, 2, 1, 2)).ahead, pad.weight(3), pad.classes, pad.class_of(9), pad.next_class(4)]
[False, (), 2, 5, 4, 4]
>>> both = Rule.modulo(3) * Rule.xor(1)
>>> [both.moduli, both(5), both.parts(5), both.bank_of(2, 1), both.added(5, 4), both.less(0, 5), str(Rule.modulo(4) << 1), str(pad.cut(2)), pad == Rule.modulo(4) + (Rule.modulo(4) << 2)]
[(3, 2), 2, (2, 1), 5, 0, 4, 'moduli 4 ahead 0 1 2 round 0', 'moduli 4 ahead 1 2 round 0', True]
>>> Rule((4,), (), (4,))
raises BadRule('turn')
>>> Rule.read("moduli 4 ahead 1 round 1")
raises BadText(0, 0)
>>> Rule.modulo(29)
raises TooMany('places', 24)
"""

DISTANCES = r"""
>>> from lanebanks.distances import Meets, Never, distance, distances, is_distance, meeting_starts
>>> from lanebanks.rules import Rule
>>> from lanebanks.sets import NumberSet
>>> four, padded = Rule.modulo(4), Rule((4,), (1, 2, 1, 2), (0,))
>>> parity = Rule((2,), (), (1,))
>>> [distances(four) == NumberSet.multiples(4) - NumberSet.of(0), distances(parity) == NumberSet.every() - NumberSet.of(0), distance(padded, 3) == Meets(1), distance(parity, 1) == Meets(1)]
[True, True, True, True]
>>> [is_distance(padded, 1), is_distance(padded, 2), [d for d in range(1, 17) if d in distances(padded)], meeting_starts(four, 8) == NumberSet.every()]
[False, False, [3, 6, 7, 9, 10, 13, 16], True]
>>> distance(four, 2) == Never((((0, 0),), ((0, 0),), ((0, 2), (1, 2))), ((2, 0, 2), (2, 1, 2)))
True
>>> distance(four, 0)
raises BadNumber(0)
"""


def outcome(line, names):
    """What a line of an example shows: its value, what it raises, or nothing."""
    try:
        code = compile(line, "example", "eval")
    except SyntaxError:
        exec(line, names)
        return None
    try:
        return repr(eval(code, names))
    except ValueError as error:
        return "raises " + repr(error)


class DocumentTest(unittest.TestCase):
    def check(self, text):
        names, shown = {}, None
        for line in text.strip().split("\n"):
            if line.startswith(">>> "):
                self.assertIsNone(shown, line)
                shown = outcome(line[4:], names)
            else:
                self.assertEqual(shown, line)
                shown = None
        self.assertIsNone(shown)

    def test_sets(self):
        self.check(SETS)

    def test_rules(self):
        self.check(RULES)

    def test_distances(self):
        self.check(DISTANCES)


if __name__ == "__main__":
    unittest.main()
