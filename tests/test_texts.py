"""The texts of settings, logs, and of what a unit does."""

import unittest

from helping import ANY, random_rule, random_set, rng_of, told, whole, without
from lanebanks.errors import BadLog, BadRule, BadUnit
from lanebanks.reader import read_log, read_setting, read_unit
from lanebanks.rules import Rule
from lanebanks.seen import Log
from lanebanks.sets import NumberSet
from lanebanks.texts import log_text, setting_text, unit_text
from lanebanks.units import Clash, Free, every_free, unit

GREAT, FAR, MILLION = 10 ** 30, 10 ** 40, 10 ** 6


def random_entries(rng, most=5):
    """The entries of a log."""
    return [(rng.choice((0, rng.randrange(99), GREAT)), rng.choice((0, rng.randrange(99), GREAT)), rng.random() < 0.5)
            for _ in range(rng.randint(0, most))]


def random_free(rng):
    """A Free with some tables, which need not be right."""
    sizes = (1, 10, 2000, MILLION + 1)
    return Free(tuple(tuple(tuple(rng.randrange(rng.choice(sizes)) for _ in range(7)) for _ in range(rng.randrange(4)))
                      for _ in range(rng.randrange(4))))


class SettingTest(unittest.TestCase):
    def test_lines(self):
        rng = rng_of(220)
        for _ in range(200):
            rule, lanes = random_rule(rng), rng.randint(2, 16)
            starts = rng.choice([None, random_set(rng), NumberSet.every(), NumberSet.none()])
            text = setting_text(rule, lanes, starts)
            wanted = "rule " + str(rule) + "\nlanes " + str(lanes) + "\nstarts " + ("all" if starts is None else str(starts))
            self.assertEqual(text, wanted)
            self.assertEqual(setting_text(starts=starts, lanes=lanes, rule=rule), wanted)
            self.assertEqual(read_setting(text), (rule, lanes, starts))
        self.assertEqual(setting_text(Rule.modulo(2), 16), "rule moduli 2 ahead 1 round 0\nlanes 16\nstarts all")

    def test_errors_in_order(self):
        for value in without(lambda value: isinstance(value, Rule)):
            self.assertEqual(told(setting_text, value, 0, 0), (BadRule, {"part": "rule"}))
        for value in without(lambda value: whole(value, 2, 16)) + [17, 1]:
            self.assertEqual(told(setting_text, Rule.modulo(2), value, 0), (BadUnit, {"part": "lanes"}))
        for value in without(lambda value: value is None or isinstance(value, NumberSet)) + ["all"]:
            self.assertEqual(told(setting_text, Rule.modulo(2), 2, value), (BadUnit, {"part": "starts"}))


class LogTest(unittest.TestCase):
    def test_lines(self):
        rng = rng_of(221)
        for _ in range(200):
            entries = random_entries(rng)
            wanted = "\n".join(f"{first} {second} " + ("met" if met else "apart") for first, second, met in entries) or "-"
            self.assertEqual(log_text(Log(*entries)), wanted)
            self.assertEqual(log_text(log=Log(*entries)), wanted)
            self.assertEqual(read_log(wanted), Log(*entries))
        self.assertEqual(log_text(Log()), "-")

    def test_errors(self):
        for value in without(lambda value: isinstance(value, Log)) + [((1, 2, True),)]:
            self.assertEqual(told(log_text, value), (BadLog, {"at": "log"}))


class UnitTest(unittest.TestCase):
    def test_lines(self):
        rng = rng_of(222)
        for _ in range(200):
            paper = random_free(rng)
            lines = ["free"]
            for table in paper.tables:
                lines += ["table"] + [" ".join(map(str, row)) for row in table]
            self.assertEqual(unit_text(paper).split("\n"), lines)
            self.assertEqual(read_unit(unit_text(value=paper)), paper)
            clash = Clash(rng.randrange(FAR + 1), rng.choice((0, FAR)), rng.randrange(16), rng.randrange(16))
            text = unit_text(clash)
            self.assertEqual(text, f"clash {clash.stride} {clash.start} {clash.one} {clash.other}")
            self.assertEqual(read_unit(text), clash)
        self.assertEqual(unit_text(Free(())), "free")
        self.assertEqual(unit_text(Free(((), ()))), "free\ntable\ntable")

    def test_what_units_tell(self):
        for rule, lanes, strides in ((Rule.modulo(4), 4, NumberSet.multiples(2, 1)), (Rule.padded(8, 3, 1), 3, NumberSet.of(4)),
                                     (Rule.xor(2), 4, NumberSet.every()), (Rule.modulo(31), 5, NumberSet.of(2))):
            for starts in (None, NumberSet.multiples(4), NumberSet.none()):
                paper = every_free(rule, lanes, strides, starts)
                self.assertEqual(read_unit(unit_text(paper)), paper)
        self.assertEqual(read_unit(unit_text(unit(Rule.modulo(4), 2, FAR // 10 ** 10))), unit(Rule.modulo(4), 2, GREAT))

    def test_values_of_all_kinds(self):
        for value in without(lambda value: isinstance(value, (Clash, Free))):
            self.assertEqual(told(unit_text, value), (BadUnit, {"part": "value"}))
        for value in ANY + [FAR, FAR + 1, 15, 16, MILLION, MILLION + 1]:
            for at, most in enumerate((FAR, FAR, 15, 15)):
                parts = [3, 4, 5, 6]
                parts[at] = value
                wanted = "none" if whole(value, 0, most) else (BadUnit, {"part": "value"})
                self.assertEqual(told(unit_text, Clash(*parts)), wanted)
            for at in range(7):
                row = (0,) * at + (value,) + (1,) * (6 - at)
                wanted = "none" if whole(value, 0, MILLION) else (BadUnit, {"part": "value"})
                self.assertEqual(told(unit_text, Free((((0,) * 7, row),))), wanted)
            if value != ():
                self.assertEqual(told(unit_text, Free(value)), (BadUnit, {"part": "value"}))
                self.assertEqual(told(unit_text, Free(((), value))), (BadUnit, {"part": "value"}))
            self.assertEqual(told(unit_text, Free((((0,) * 7, value),))), (BadUnit, {"part": "value"}))
        row = (0,) * 7
        for tables in ([], ([],), [()], ((list(row),),), ([row],), [(row,)], ((row[1:],),), ((row + (0,),),)):
            self.assertEqual(told(unit_text, Free(tables)), (BadUnit, {"part": "value"}))


if __name__ == "__main__":
    unittest.main()
