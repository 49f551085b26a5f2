"""Settings, logs, and what a unit does, read from their texts: the first word that cannot stand."""

import time
import unittest

from helping import random_rule, random_set, rng_of, same, told, without
from lanebanks.errors import BadSet, BadText
from lanebanks.reader import read_log, read_setting, read_unit
from lanebanks.rules import Rule
from lanebanks.seen import Log
from lanebanks.sets import NumberSet
from lanebanks.texts import log_text, setting_text, unit_text
from lanebanks.units import Clash, Free
from test_texts import FAR, GREAT, MILLION, random_entries, random_free

WORDS = ["", "0", "1", "2", "00", "01", "-1", "-0", "+1", "1.0", "16", "17", "15", "x", "-", "+", "/", "all", "met", "apart",
         "rule", "lanes", "starts", "free", "table", "clash", "moduli", "ahead", "round", str(GREAT), str(GREAT + 1), str(FAR),
         str(FAR + 1), str(MILLION), str(MILLION + 1), "1" * 60, "1999", "2000", "Met", "4\t"]


def number(least, most):
    """A test of a word: whether it tells an integer within bounds, as str writes it."""
    return lambda word: word.isdigit() and word.isascii() and str(int(word)) == word and least <= int(word) <= most


def among(*words):
    """A test of a word: whether it is one of these."""
    return lambda word: word in words


def line_fault(words, tests):
    """The index of the first word of a line that cannot stand, the number of words if one is missing, or None."""
    for at, test in enumerate(tests):
        if at == len(words) or not test(words[at]):
            return at
    return len(tests) if len(words) > len(tests) else None


def part_fault(kind, words):
    """The index of the first word that the read of a class does not take behind a first word, or what it raises."""
    found = told(kind.read, " ".join(words[1:]))
    if found == "none":
        return None
    return 1 + found[1]["word"] if found[0] is BadText else found


def entry_fault(words):
    return line_fault(words, (number(0, GREAT), number(0, GREAT), among("met", "apart")))


def log_fault(lines):
    """The error of a log's text, as the document tells it, None for none."""
    if lines[0][0] == "-":
        return (0, 1) if len(lines[0]) > 1 else (1, 0) if len(lines) > 1 else None
    for at, words in enumerate(lines):
        if entry_fault(words) is not None:
            return at, entry_fault(words)
    return None


def unit_fault(lines):
    """The error of the text of what a unit does, None for none."""
    if lines[0][0] == "clash":
        fault = line_fault(lines[0], (among("clash"), number(0, FAR), number(0, FAR), number(0, 15), number(0, 15)))
        return (0, fault) if fault is not None else (1, 0) if len(lines) > 1 else None
    fault = line_fault(lines[0], (among("free"),))
    if fault is not None:
        return 0, fault
    for at, words in enumerate(lines):
        row = at > 1 and words[0] != "table"
        fault = line_fault(words, (number(0, MILLION),) * 7 if row else (among("table"),)) if at > 0 else None
        if fault is not None:
            return at, fault
    return None


def setting_fault(lines):
    """The error of a setting's text, None for none; a BadSet as told tells it."""
    kept = None
    for at, first in enumerate(("rule", "lanes", "starts")):
        if at == len(lines):
            return at, 0
        words = lines[at]
        fault = line_fault(words[:1], (among(first),))
        if fault is None and at == 0:
            fault = part_fault(Rule, words)
        if fault is None and at == 1:
            fault = line_fault(words, (among("lanes"), number(2, 16)))
        if fault is None and at == 2:
            is_all = words[1:2] == ["all"]
            fault = line_fault(words, (among("starts"), among("all"))) if is_all else part_fault(NumberSet, words)
        if type(fault) is tuple:
            kept = fault
        elif fault is not None:
            return at, fault
    return (3, 0) if len(lines) > 3 else kept


def others_of(rng, text):
    """Texts that are a text but for a word or a line left out, put in, exchanged, doubled, or an empty one."""
    lines = [line.split(" ") for line in text.split("\n")]
    for at in rng.sample(range(len(lines)), min(3, len(lines))):
        yield lines[:at] + lines[at + 1:]
        yield lines[:at] + lines[at:at + 1] + lines[at:]
        yield lines[:at] + [[""]] + lines[at:]
        yield lines[:at] + [rng.choice(lines)] + lines[at + 1:]
        for k in rng.sample(range(len(lines[at])), min(4, len(lines[at]))):
            words = lines[at]
            for fresh in ([], [words[k]] * 2, [""], [words[k], ""], ["", words[k]], *([word] for word in rng.sample(WORDS, 6)),
                          [rng.choice(WORDS), words[k]]):
                yield lines[:at] + [words[:k] + fresh + words[k + 1:]] + lines[at + 1:]
            yield lines[:at] + [words[:k + 1]] + lines[at + 1:]
            yield lines[:at] + [words[:k + 1]]
        yield lines[:at] + [words + [rng.choice(WORDS)]] + lines[at + 1:]
    for fresh in ([""], ["-"], ["table"], ["0"] * 7, ["1", "2", "met"], ["starts", "all"]):
        yield lines + [fresh]
        yield [fresh] + lines


class ReaderTest(unittest.TestCase):
    def check(self, read, fault, write, text):
        """What a reader tells of a text, right or wrong."""
        wanted = fault([line.split(" ") for line in text.split("\n")])
        found = told(read, text)
        if wanted is None:
            self.assertEqual(found, "none", text)
            value = read(text)
            self.assertEqual(write(*value) if type(value) is tuple else write(value), text)
            self.assertTrue(same(read(text=text), value))
        elif type(wanted[0]) is type:
            self.assertEqual(found, wanted, text)
        else:
            self.assertEqual(found, (BadText, {"line": wanted[0], "word": wanted[1]}), text)
        return wanted

    def check_others(self, rng, text, read, fault, write):
        seen = [self.check(read, fault, write, text)]
        for lines in others_of(rng, text):
            if lines:
                seen.append(self.check(read, fault, write, "\n".join(" ".join(words) for words in lines)))
        self.assertIsNone(seen[0])
        return seen

    def test_logs(self):
        rng, seen = rng_of(230), []
        for _ in range(60):
            seen += self.check_others(rng, log_text(Log(*random_entries(rng))), read_log, log_fault, log_text)
        self.assertGreater(seen.count(None), 100)
        self.assertGreater(len(set(seen)), 15)

    def test_units(self):
        rng, seen = rng_of(231), []
        for _ in range(60):
            clash = Clash(rng.choice((0, 7, FAR)), rng.choice((0, 7, FAR)), rng.randrange(16), rng.randrange(16))
            for paper in (clash, random_free(rng)):
                seen += self.check_others(rng, unit_text(paper), read_unit, unit_fault, unit_text)
        self.assertGreater(seen.count(None), 300)
        self.assertGreater(len(set(seen)), 30)

    def test_settings(self):
        rng, seen = rng_of(232), []
        for _ in range(100):
            text = setting_text(random_rule(rng), rng.randint(2, 16), rng.choice([None, random_set(rng), random_set(rng, 20)]))
            seen += self.check_others(rng, text, read_setting, setting_fault, setting_text)
        self.assertGreater(seen.count(None), 100)
        self.assertGreater(len([wanted for wanted in seen if wanted and wanted[0] is BadSet]), 20)
        self.assertTrue({(0, 0), (0, 1), (1, 0), (1, 1), (1, 2), (2, 0), (2, 1), (2, 2), (3, 0)} <= set(map(str_less, seen)))

    def test_each_reader_with_the_texts_of_all_others(self):
        rng = rng_of(233)
        readers = ((read_setting, setting_fault, setting_text), (read_log, log_fault, log_text),
                   (read_unit, unit_fault, unit_text))
        for _ in range(20):
            texts = [setting_text(random_rule(rng), 4, random_set(rng)), log_text(Log(*random_entries(rng))),
                     unit_text(random_free(rng)), "clash 1 2 3 4", str(random_rule(rng)), str(random_set(rng)), "", " ", "\n"]
            for text in texts:
                for reader in readers:
                    self.check(*reader, text)

    def test_no_strings(self):
        for read in (read_setting, read_log, read_unit):
            for value in without(lambda value: isinstance(value, str)) + [b"free", ["free"], b"-"]:
                self.assertEqual(told(read, value), (BadText, {"line": 0, "word": 0}))


def str_less(wanted):
    """A fault as a pair that can stand in a set."""
    return wanted if wanted is None or type(wanted[0]) is int else ("set",)


class KnownFaultsTest(unittest.TestCase):
    def fault(self, read, text):
        found = told(read, text)
        self.assertTrue(found != "none" and found[0] is BadText, text)
        return found[1]["line"], found[1]["word"]

    def test_logs(self):
        for text, wanted in (("", (0, 0)), ("- ", (0, 1)), ("- -", (0, 1)), ("-\n", (1, 0)), ("-\n-", (1, 0)),
                             ("- x\n1", (0, 1)), ("1 2 met\n-", (1, 0)), ("1 2 met\n", (1, 0)), ("1 2", (0, 2)),
                             ("1 2 met met", (0, 3)), ("01 2 met", (0, 0)), ("1 -2 met", (0, 1)), ("1  2 met", (0, 1)),
                             (" 1 2 met", (0, 0)), ("1 2 met ", (0, 3)), (f"{GREAT + 1} 0 met", (0, 0)), ("1 2 Met", (0, 2)),
                             ("1 2 met\n\n3 4 met", (1, 0)), ("1 2 met\r\n3 4 met", (0, 2))):
            self.assertEqual(self.fault(read_log, text), wanted, text)

    def test_units(self):
        for text, wanted in (("free free", (0, 1)), ("free\n", (1, 0)), ("free\ntable table", (1, 1)),
                             ("free\ntable\n0 0", (2, 2)), ("free\ntable\n0 0 0 0 0 0 0 0", (2, 7)),
                             ("free\ntable\n0 0 0 0 0 0 x 0", (2, 6)),
                             ("free\n0 0 0 0 0 0 0", (1, 0)), ("clash 1 2 3", (0, 4)), ("clash 1 2 3 4 5", (0, 5)),
                             ("clash 1 2 3 4\n", (1, 0)), ("clash 1 2 16 4", (0, 3)), ("clash 1 2 3 16", (0, 4)),
                             ("clash", (0, 1)), (f"clash {FAR + 1} 0 0 1", (0, 1)),
                             (f"free\ntable\n{MILLION + 1} 0 0 0 0 0 0", (2, 0)),
                             ("free\ntable\ntable\n\ntable", (3, 0)), ("Free", (0, 0)), ("", (0, 0))):
            self.assertEqual(self.fault(read_unit, text), wanted, text)

    def test_settings(self):
        rule = "rule moduli 2 ahead 1 round 0"
        for text, wanted in (("rule", (0, 1)), ("rule ", (0, 1)), (rule, (1, 0)), (rule + "\n", (1, 0)),
                             (rule + "\nlanes", (1, 1)), (rule + "\nlanes 1", (1, 1)), (rule + "\nlanes 17", (1, 1)),
                             (rule + "\nlanes 02", (1, 1)),
                             (rule + "\nlanes 2 2", (1, 2)), (rule + "\nlanes 2", (2, 0)), (rule + "\nlanes 2\nstarts", (2, 1)),
                             (rule + "\nlanes 2\nstarts all all", (2, 2)), (rule + "\nlanes 2\nstarts 0 0", (2, 3)),
                             (rule + "\nlanes 2\nstarts 0 0 + /", (2, 5)), (rule + "\nlanes 2\nstarts all\n", (3, 0)),
                             (rule + "\nlanes 2\nstarts 2000 0 +", (2, 1)), (rule + " 0 x\nlanes", (0, 8)),
                             # What is not in the normal form is wrong at the word 1, ahead of later lines.
                             ("rule moduli 2 ahead 1 0 round 0\nlanes 99", (0, 1)),
                             ("rule moduli 2 ahead 0 round 0", (0, 1)),
                             (rule + "\nlanes 2\nstarts 0 0 + / 1 1 -", (2, 1)),
                             (rule + "\nlanes 2\nstarts 0 0 + / 1 1 -\nmore", (2, 1)),
                             # A BadSet comes behind all else.
                             (rule + "\nlanes 2\nstarts 0 1 +\nmore", (3, 0)), (rule + "\nlanes 2\nstarts 0 1 +\n", (3, 0))):
            self.assertEqual(self.fault(read_setting, text), wanted, text)
        for starts, part in (("0 1 +", "nexts"), ("1 0 + / 1 1 -", "zeros"), ("0 1999 -", "nexts")):
            self.assertEqual(told(read_setting, rule + "\nlanes 2\nstarts " + starts), (BadSet, {"part": part}))

    def test_all_numbers_and_all_starts(self):
        rule = Rule.modulo(2)
        self.assertTrue(same(read_setting(setting_text(rule, 2)), (rule, 2, None)))
        self.assertEqual(read_setting(setting_text(rule, 2, NumberSet.every())), (rule, 2, NumberSet.every()))
        self.assertNotEqual(setting_text(rule, 2), setting_text(rule, 2, NumberSet.every()))


class TimeTest(unittest.TestCase):
    def test_many_rows_in_a_short_time(self):
        begin = time.perf_counter()
        rows = tuple((at % 7, at % 5, at % 16, at % 32, at % 1999, at % MILLION, at % 2) for at in range(150000))
        paper = Free((rows, (), rows[:3]))
        text = unit_text(paper)
        self.assertEqual(read_unit(text), paper)
        self.assertEqual(told(read_unit, text + "\n"), (BadText, {"line": 150007, "word": 0}))
        log = Log(*[(at, GREAT - at, at % 3 == 0) for at in range(30000)])
        self.assertEqual(read_log(log_text(log)), log)
        setting = (Rule.xor(5, 4), 16, NumberSet.multiples(499, 77))
        self.assertEqual(read_setting(setting_text(*setting)), setting)
        self.assertLess(time.perf_counter() - begin, 20)


if __name__ == "__main__":
    unittest.main()
