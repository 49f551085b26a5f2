"""The examples of the document, word for word."""

import unittest

SETS = r"""
>>> from lanebanks.members import words_to
>>> from lanebanks.normal import normal_form
>>> from lanebanks.sets import NumberSet
>>> evens, fours = NumberSet.multiples(2), NumberSet(((1, 3), (2, 3), (2, 2), (3, 3)), (True, True, True, False))
>>> [str(evens), str(fours), 6 in evens, 6 in fours, fours.within(evens), str(evens - fours), (evens ^ fours).least]
['1 2 + / 1 1 + / 2 2 -', '1 2 + / 3 2 + / 2 2 - / 3 3 +', True, False, True, '1 2 - / 2 3 - / 2 2 - / 3 3 +', 2]
>>> [list(NumberSet.of(9, 2, 2).members()), NumberSet.between(3, 6).greatest, (~evens).count(10 ** 30) == 5 * 10 ** 29, fours[5], evens.next_from(7), evens.greatest, (~NumberSet.between(3)).is_endless]
[[2, 9], 5, True, 20, 8, None, False]
>>> [fours.solved(3) == fours, evens.solved(1, 1) == ~evens, str(NumberSet.none()), str(NumberSet.every()), NumberSet.of(0).states, words_to(fours), normal_form([(1, 0), (0, 1)], [True, True])]
[True, True, '0 0 -', '0 0 +', 2, (0, 0, 1, 0), (((0, 0),), (True,))]
>>> NumberSet([(0, 1), (0, 1)], [True, False])
raises BadSet('zeros')
>>> fours[-1]
raises NoMember(-1)
>>> NumberSet.read("0 0 + / 1 1 -")
raises BadText(0, 0)
"""

RULES = r"""
>>> from lanebanks.rules import Rule
>>> pad, fold = Rule.padded(4, 2, 1), Rule.xor(2, 2)
>>> [str(pad), str(fold), str(Rule.modulo(12)), str(Rule.xor(1)), [pad(address) for address in (1, 2, 3, 4, 16)], fold(7), fold(8)]
['moduli 4 ahead 1 2 1 2 round 0', 'moduli 2 2 ahead 1 2 1 2 round 0', 'moduli 12 ahead 1 2 round 4 8', 'moduli 2 ahead - round 1', [1, 2, 3, 1, 0], 2, 2]
>>> [Rule((4,), [1, 2, 1], [2, 0, 0]) == Rule((4,), [1, 2, 1, 2], [0]), Rule((4,), [1, 2], (1, 2, 1, 2)).ahead, pad.weight(3), pad.classes, pad.class_of(9), pad.next_class(4)]
[False, (), 2, 5, 4, 4]
>>> both = Rule.modulo(3) * Rule.xor(1)
>>> [both.moduli, both(5), both.parts(5), both.bank_of(2, 1), both.added(5, 4), both.less(0, 5), str(Rule.modulo(4) << 1), str(pad.cut(2)), pad == Rule.modulo(4) + (Rule.modulo(4) << 2)]
[(3, 2), 2, (2, 1), 5, 0, 4, 'moduli 4 ahead 0 1 2 round 0', 'moduli 4 ahead 1 2 round 0', True]
>>> Rule((4,), (), (4,))
raises BadRule('turn')
>>> Rule.read("moduli 4 ahead 1 round 1")
raises BadText(0, 0)
>>> Rule.modulo(29)
raises TooMany('places', 24)
"""

DISTANCES = r"""
>>> from lanebanks.distances import Meets, Never, distance, distances, is_distance, meeting_starts
>>> from lanebanks.look_distances import shows_distance
>>> from lanebanks.rules import Rule
>>> from lanebanks.sets import NumberSet
>>> four, padded = Rule.modulo(4), Rule((4,), (1, 2, 1, 2), (0,))
>>> parity = Rule((2,), (), (1,))
>>> [distances(four) == NumberSet.multiples(4) - NumberSet.of(0), distances(parity) == NumberSet.every() - NumberSet.of(0), distance(padded, 3) == Meets(1), distance(parity, 1) == Meets(1)]
[True, True, True, True]
>>> [is_distance(padded, 1), is_distance(padded, 2), [d for d in range(1, 17) if d in distances(padded)], meeting_starts(four, 8) == NumberSet.every()]
[False, False, [3, 6, 7, 9, 10, 13, 16], True]
>>> distance(four, 2) == Never((((0, 0),), ((0, 0),), ((0, 2), (1, 2))), ((2, 0, 2), (2, 1, 2)))
True
>>> [shows_distance(four, 2, distance(four, 2)), shows_distance(four, 4, Meets(5)), shows_distance(four, 2, Meets(0))]
[True, True, False]
>>> distance(four, 0)
raises BadNumber(0)
"""

UNITS = r"""
>>> from lanebanks.look_units import shows_unit
>>> from lanebanks.units import Clash, Free, every_free, first_clash, free_strides, is_free, meeting, unit
>>> [free_strides(four, 4) == NumberSet.multiples(2, 1) | NumberSet.of(0), [s for s in range(20) if s in free_strides(padded, 4)], [s for s in range(8) if s in free_strides(padded, 3)]]
[True, [0, 4, 12], [0, 1, 2, 4]]
>>> aligned = NumberSet.multiples(4)
>>> [is_free(padded, 4, 1), is_free(padded, 4, 1, aligned), is_free(padded, 3, 3, aligned), first_clash(padded, 3, 3, 0), first_clash(padded, 4, 1, 1)]
[False, True, False, (1, 2), (0, 3)]
>>> [bool(every_free(padded, 4, NumberSet.multiples(16, 4))), unit(four, 2, 1) == Free((((0, 0, 0, 0, 0, 0, 0), (1, 0, 0, 1, 0, 2, 1), (1, 0, 1, 3, 0, 2, 1), (2, 0, 0, 1, 0, 2, 1), (2, 0, 1, 1, 0, 2, 1)),))]
[True, True]
>>> [shows_unit(four, 3, NumberSet.of(2), Clash(2, 5, 0, 2)), shows_unit(padded, 4, NumberSet.of(1), every_free(padded, 4, NumberSet.of(1), aligned), aligned), meeting(padded, 1, 2, aligned) == meeting(padded, 0, 1)]
[True, True, False]
>>> unit(four, 17, 1)
raises BadUnit('lanes')
"""

TILES = r"""
>>> from lanebanks.look_tiles import shows_clear
>>> from lanebanks.tiles import Jam, Pattern, clear, free_pitches, next_pitch
>>> [Pattern.strided(4, 5).gaps(), str(Pattern.tiled(2, 2, 4)), 4 in Pattern(9, 4), str(Pattern(0, 3) | Pattern(1) + 2), Pattern(3) <= Pattern(0, 3)]
[(5, 10, 15), '0 1 4 5', True, '0 3', True]
>>> [bool(clear(pad, Pattern.strided(4, 4))), bool(clear(pad, Pattern.strided(4, 1))), shows_clear(pad, Pattern.strided(4, 1), Jam(1, 0, 3)), sorted(clear(pad, Pattern(0, 4, 5)).papers)]
[True, False, True, [1, 4, 5]]
>>> [[pitch in free_pitches(four, 2, 2) for pitch in range(8)], next_pitch(four, 2, 2, 10 ** 20) - 10 ** 20, list(free_pitches(pad, 2, 2).members()), next_pitch(pad, 2, 2, 5)]
[[True, True, True, False, False, False, True, False], 2, [0, 1], None]
>>> free_pitches(four, 5, 4)
raises BadTile('height')
"""

WORST = r"""
>>> from lanebanks.look_worst import shows_shared
>>> from lanebanks.worst import Shared, shared, worst
>>> [[worst(four, 4, stride).number for stride in range(5)], worst(pad, 4, 1).number, worst(pad, 4, 16).number, shared(fold, Pattern(0, 5, 10, 15)).number]
[[1, 1, 2, 1, 4], 2, 4, 4]
>>> [len(shared(Rule.modulo(2), Pattern(0, 1)).stands), shows_shared(Rule.modulo(2), Pattern(0, 1), Shared(1, 5, ((((0, 0), (0, 0)),),), ((((0, 0), (0, 1)), ((0, 1), (0, 1))),)))]
[1, True]
"""

COMPARED = r"""
>>> from lanebanks.compared import Less, Parted, Same, Split, Told, first_unlike, freer, order, same_banks, tells
>>> from lanebanks.look_compared import shows_freer, shows_same, shows_tells
>>> from lanebanks.rules import Rule
>>> plain, pad, two = Rule((4,), (1, 2), (0,)), Rule((4,), (1, 2, 1, 2), (0,)), Rule((2,), (1,), (0,))
>>> [tells(plain, two) == Told({0: 0, 1: 1, 2: 0, 3: 1}), tells(two, plain) == Split(0, 2), tells(plain, pad) == Split(0, 4), tells(pad, plain) == Split(1, 4)]
[True, True, True, True]
>>> [same_banks(plain, Rule((4,), (3, 2), (0,))) == Same({0: 0, 1: 3, 2: 2, 3: 1}), bool(same_banks(plain, Rule((2, 2), (1, 2), (0,)))), same_banks(pad, plain) == Parted(0, 4)]
[True, True, True]
>>> [freer(plain, pad, 4) == Less(4), freer(pad, plain, 4) == Less(1), first_unlike(plain, pad, 4), order(plain, pad, 4), order(plain, two, 2), bool(freer(plain, two, 2))]
[True, True, 1, 'apart', 'better', True]
>>> [shows_tells(two, plain, Split(1, 3)), shows_same(pad, plain, Parted(1, 4)), shows_freer(plain, pad, 4, Less(12)), shows_freer(plain, two, 2, freer(plain, two, 2))]
[True, True, True, True]
"""

MADE = r"""
>>> from lanebanks.look_made import shows_padding, shows_weights
>>> from lanebanks.made import Padded, Unweighted, fewest_banks, first_padding, first_weights
>>> [first_padding(4, 2, Pattern.strided(4, 4)).pad, bool(first_padding(4, 2, Pattern.strided(4, 1), Pattern.strided(4, 4))), first_weights(4, 2, Pattern.strided(4, 1)).weights, fewest_banks(Pattern.strided(4, 6)), fewest_banks(Pattern(3))]
[1, False, (1, 2), 5, 2]
>>> [shows_padding(4, 2, [Pattern(0, 4)], Padded(1, ((0, Jam(0, 0, 4)),), (clear(pad, Pattern(0, 4)),))), shows_weights(2, 1, [Pattern(0, 2)], Unweighted(((0, Jam(0, 0, 2)), (0, Jam(0, 0, 2))))), bool(first_weights(2, 1, Pattern(0, 2)))]
[True, True, False]
>>> first_padding(4, 13, Pattern(1))
raises BadRule('every')
"""

SEEN = r"""
>>> from lanebanks.seen import Found, Log, Shape, fitting, shows_found, surely, told_back
>>> shape, log = Shape((2,), 1, 1), Log((0, 1, False))
>>> [[str(rule) for rule in shape] == [str(Rule((2,), (one,), (other,))) for one in (0, 1) for other in (0, 1)], len(list(fitting(shape, log))), Rule((2,), (), (1,)) in shape, plain in shape]
[True, 2, True, False]
>>> [surely(shape, log, 2, 4), surely(shape, log, 0, 7), surely(shape, log, 0, 2), surely(shape, log + Log((0, 6, False)), 0, 0), log.first_against(Rule((2,), (0,), (1,)))]
['met', 'apart', 'open', None, 0]
>>> odd = Rule((2,), (), (1,))
>>> found = told_back(shape, lambda first, second: odd(first) == odd(second))
>>> [found == Found(odd, Log((0, 2, False), (0, 1, False))), shows_found(shape, found), shows_found(shape, Found(odd, Log((0, 1, False))))]
[True, True, False]
>>> Log((0, 1, False), (0, -1, True))
raises BadLog(1)
"""

MEMORY = r"""
>>> from lanebanks.memory import Memory, Served
>>> memory = Memory(pad)
>>> memory[4] = 7
>>> memory.store(1, -2)
>>> [memory[4], memory[5], memory.load(1, 2, 3, 4) == Served((-2, 0, 0, 7), 2), memory.load(4, 4, 4) == Served((7, 7, 7), 1), memory.clock, len(memory)]
[7, 0, True, True, 3, 4]
>>> [memory.load_unit(1, 1).ticks, memory.load_unit(0, 1).ticks, memory.load_unit(3, 4).ticks, memory.sweep(0, 5, 6), memory.undo(), memory.clock]
[2, 1, 1, 3, 'sweep', 7]
>>> memory.swap(Rule.modulo(4))
>>> [memory.load_unit(0, 4).ticks, list(memory.words()), memory.tried(lambda same: (same.store(9, 1), same.clock)), len(memory), memory.twin().undo(), memory.clock]
[4, [(1, -2), (4, 7)], (None, 11), 9, 'load', 11]
>>> memory.load(1, -1)
raises BadNumber(-1)
>>> memory.load(0, 1, 2, 3, 4)
raises TooMany('lanes', 4)
"""

TEXTS = r"""
>>> from lanebanks.reader import read_log, read_setting, read_unit
>>> from lanebanks.rules import Rule
>>> from lanebanks.seen import Log
>>> from lanebanks.texts import log_text, setting_text, unit_text
>>> from lanebanks.units import Clash, Free
>>> page = setting_text(Rule.modulo(4), 4, evens)
>>> [page.split("\n"), read_setting(page) == (Rule.modulo(4), 4, evens), setting_text(Rule.modulo(2), 2).split("\n")[2]]
[['rule moduli 4 ahead 1 2 round 0', 'lanes 4', 'starts 1 2 + / 1 1 + / 2 2 -'], True, 'starts all']
>>> [log_text(Log((3, 4, True), (0, 1, False))).split("\n"), read_log("-") == Log(), unit_text(Clash(1, 5, 0, 3)), read_unit("free") == Free(())]
[['3 4 met', '0 1 apart'], True, 'clash 1 5 0 3', True]
>>> [unit_text(Free((((0, 0, 0, 0, 0, 0, 0),),))).split("\n"), read_unit("free\ntable").tables]
[['free', 'table', '0 0 0 0 0 0 0'], ((),)]
>>> read_log("3 4 met\n3 4")
raises BadText(1, 2)
>>> read_unit("free\n0 0 0 0 0 0 0")
raises BadText(1, 0)
"""

DESK = r"""
>>> from lanebanks.desk import Desk
>>> desk = Desk()
>>> desk.run("padded p 4 2 1", "modulo m 4", "memory x p 4", "store x 4 7", "load x 1 4", "unit x 1 1", "word x 4", "clock x")
['ok', 'ok', 'ok', 'ok', '0 7 in 2', '2', '7', '4']
>>> desk.run("free p 4 1", "free m 4 1", "next p 4 1", "count m 4 100", "clash p 4 1 1", "distance p 3", "distance m 2", "tells p m", "order m p 4", "worst p 4 1")
['no', 'yes', '4', '51', '0 3', 'meets 1', 'never', 'no 1 4', 'apart', '2']
>>> desk.run("back x", "clock x", "undo", "undo", "clock x", "cut p 2", "show p", "same p m", "names", "bank m 7")
['load', '2', 'ok', 'ok', '2', 'ok', 'moduli 4 ahead 1 2 round 0', 'yes', 'm p / x', '3']
>>> desk("free p 4")
raises BadCommand(3)
>>> desk("back y")
raises NoName('y')
"""


def outcome(line, names):
    """What a line of an example shows: its value unless it is None, what it raises, or nothing."""
    try:
        code = compile(line, "example", "eval")
    except SyntaxError:
        exec(line, names)
        return None
    try:
        value = eval(code, names)
        return None if value is None else repr(value)
    except ValueError as error:
        return "raises " + repr(error)


class DocumentTest(unittest.TestCase):
    def check(self, text, names):
        shown = None
        for line in text.strip().split("\n"):
            if line.startswith(">>> "):
                self.assertIsNone(shown, line)
                shown = outcome(line[4:], names)
            else:
                self.assertEqual(shown, line)
                shown = None
        self.assertIsNone(shown)

    def test_examples(self):
        # Examples use what earlier ones imported, and the names that were bound last.
        names = {}
        for text in (SETS, RULES, DISTANCES, UNITS, TILES, WORST, COMPARED, MADE, SEEN, MEMORY, TEXTS, DESK):
            self.check(text, names)


if __name__ == "__main__":
    unittest.main()
