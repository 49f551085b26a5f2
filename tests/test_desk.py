"""Desks: lines that are done and answered, taken back, refused, run together, tried."""

import time
import unittest

from helping import rng_of, same, told, without
from lanebanks.compared import order, same_banks, tells
from lanebanks.desk import Desk
from lanebanks.distances import distance
from lanebanks.errors import (BadCommand, BadMemory, BadNumber, BadRule, BadText, BadTile, BadUnit, NoName, Nothing,
                              TooMany)
from lanebanks.memory import Memory
from lanebanks.rules import Rule
from lanebanks.units import first_clash, free_strides, is_free
from lanebanks.worst import worst
from test_memory import Model, shown

GREAT = 10 ** 30
# The table of the document: what stands behind the first word. A name in small letters need not stand for anything.
TABLE = {
    "rule": "a R", "modulo": "a N", "xor": "a N N", "padded": "a N N N", "join": "a B C", "sum": "a B C", "shift": "A N",
    "cut": "A N", "memory": "m A N", "store": "M N W", "load": "M N N", "unit": "M N N", "back": "M", "undo": "", "show": "A",
    "clock": "M", "word": "M N", "names": "", "bank": "A N", "free": "A N N", "next": "A N N", "count": "A N N",
    "clash": "A N N N", "distance": "A N", "tells": "A B", "same": "A B", "order": "A B N", "worst": "A N N",
}
CHANGING = ("rule", "modulo", "xor", "padded", "join", "sum", "shift", "cut", "memory", "store", "load", "unit", "back")
TEXTS = ["moduli 4 ahead 1 2 round 0", "moduli 2 ahead - round 1", "moduli 2 2 ahead 1 2 1 2 round 0",
         "moduli 3 ahead 2 0 round 1 2", "moduli 4 ahead 1 round 1", "moduli 2 ahead - round 2", "moduli 2", "moduli", "", "x",
         "moduli 2 ahead 1 round 0 0",
         "moduli 4 ahead 1 2 round", "moduli 33 ahead - round 0", "moduli 4 ahead 1 2 round 0 "]
WORDS = ["", "0", "1", "2", "3", "4", "-1", "-0", "+1", "01", "x", "p", "q", "zz", "abcdefgh", "abcdefghi", "P", "x1", "-", "/",
         "ok", "rule", "memory", "names", str(GREAT), str(GREAT + 1), str(-GREAT), str(-GREAT - 1), "1 2", "\n"]


def is_whole(word, least, most):
    """Whether a word tells an integer within bounds, as str writes it."""
    digits = word[1:] if word[:1] == "-" else word
    return digits.isascii() and digits.isdigit() and str(int(word)) == word and least <= int(word) <= most


def is_name(word):
    """Whether a word is a name."""
    return 1 <= len(word) <= 8 and all("a" <= letter <= "z" for letter in word)


def fault_of(line):
    """The word of the BadCommand that a line is refused with, as the document tells it; None for none."""
    if type(line) is not str or line.split(" ")[0] not in TABLE:
        return 0
    words = line.split(" ")
    kinds = TABLE[words[0]].split()
    for at, kind in enumerate(kinds, 1):
        if kind == "R":
            found = told(Rule.read, " ".join(words[at:]))
            return None if found == "none" else at + found[1]["word"]
        if at == len(words):
            return at
        good = {"N": is_whole(words[at], 0, GREAT), "W": is_whole(words[at], -GREAT, GREAT)}.get(kind, is_name(words[at]))
        if not good:
            return at
    return 1 + len(kinds) if len(words) > 1 + len(kinds) else None


class Copied:
    """A desk as the document tells it, with a whole copy of what stood before each line."""

    def __init__(self):
        self.rules, self.memories, self.before = {}, {}, []

    def copies(self):
        found = {}
        for name, model in self.memories.items():
            found[name] = Model(model.rule, model.lanes)
            found[name].held, found[name].clock, found[name].deeds = model.held, model.clock, model.deeds
        return found

    def twin(self):
        other = Copied()
        other.rules, other.memories, other.before = dict(self.rules), self.copies(), list(self.before)
        return other

    def say(self, line):
        words = line.split(" ")
        for kind, word in zip(TABLE[words[0]].split(), words[1:]):
            if kind in "ABCM" and word not in (self.memories if kind == "M" else self.rules):
                raise KeyError(word)
        kept = (dict(self.rules), self.copies())
        answer = self.answer(words[0], words[1:])
        if words[0] in CHANGING:
            self.before.append(kept)
        return answer

    def answer(self, word, rest):
        names = [None if word == "rule" and at > 0 else self.rules.get(part) for at, part in enumerate(rest)]
        whole = [int(part) if is_whole(part, -GREAT, GREAT) else None for part in rest]
        if word in ("rule", "modulo", "xor", "padded", "join", "sum", "shift", "cut"):
            self.rules = {**self.rules, rest[0]: self.made(word, rest, names, whole)}
            return "ok"
        if word == "memory":
            memory = Memory(names[1], whole[2])
            self.memories[rest[0]] = Model(memory.rule, memory.lanes)
            return "ok"
        if word in ("store", "load", "unit", "back", "clock", "word"):
            return self.done(word, self.memories[rest[0]], whole[1:])
        if word == "undo":
            if not self.before:
                return "nothing"
            self.rules, self.memories = self.before.pop()
            return "ok"
        if word == "names":
            return " / ".join(" ".join(sorted(table)) or "-" for table in (self.rules, self.memories))
        return self.asked(word, names, whole)

    def made(self, word, rest, names, whole):
        if word == "rule":
            return Rule.read(" ".join(rest[1:]))
        if word == "modulo":
            return Rule.modulo(whole[1])
        if word == "xor":
            return Rule.xor(whole[1], whole[2])
        if word == "padded":
            return Rule.padded(*whole[1:])
        if word == "join":
            return names[1] * names[2]
        if word == "sum":
            return names[1] + names[2]
        return names[0] << whole[1] if word == "shift" else names[0].cut(whole[1])

    def done(self, word, model, whole):
        if word == "store":
            model.store(*whole)
            return "ok"
        if word == "load":
            served = model.load(*whole)
            return f"{served.loaded[0]} {served.loaded[1]} in {served.ticks}"
        if word == "unit":
            return str(model.load_unit(*whole).ticks)
        if word == "back":
            return model.undo()
        return str(model.clock) if word == "clock" else str(model.held.get(whole[0], 0))

    def asked(self, word, names, whole):
        rule = names[0]
        if word == "show":
            return str(rule)
        if word == "bank":
            return str(rule(whole[1]))
        if word == "free":
            return "yes" if is_free(rule, whole[1], whole[2]) else "no"
        if word == "next":
            stride = free_strides(rule, whole[1]).next_from(whole[2])
            return "-" if stride is None else str(stride)
        if word == "count":
            return str(free_strides(rule, whole[1]).count(whole[2]))
        if word == "clash":
            pair = first_clash(rule, *whole[1:])
            return "-" if pair is None else f"{pair[0]} {pair[1]}"
        if word == "distance":
            paper = distance(rule, whole[1])
            return f"meets {paper.start}" if paper else "never"
        if word in ("tells", "same"):
            paper = {"tells": tells, "same": same_banks}[word](rule, names[1])
            return "yes" if paper else f"no {paper.first} {paper.second}"
        return order(rule, names[1], whole[2]) if word == "order" else str(worst(rule, whole[1], whole[2]).number)

    def shown(self):
        return (self.rules, {name: model.shown() for name, model in self.memories.items()}, len(self.before))


def seen_on(desk):
    """All that a desk shows."""
    return desk.all_rules(), {name: shown(memory) for name, memory in desk.all_memories().items()}, len(desk)


def random_line(rng, model):
    """A line that fits the table, with names that mostly stand for something."""
    word = rng.choice(CHANGING * 2 + ("undo",) * 8 + tuple(TABLE))
    parts = [word]
    for kind in TABLE[word].split():
        names = {"A": model.rules, "B": model.rules, "C": model.rules, "M": model.memories}.get(kind, "ab")
        if kind == "N":
            parts.append(rng.choice(("0", "1", "2", "2", "3", "4", "4", "4", str(rng.randrange(40)), str(GREAT))))
        elif kind == "W":
            parts.append(rng.choice(("0", "-3", "7", str(GREAT), str(-GREAT))))
        elif kind == "R":
            parts.append(rng.choice(TEXTS[:4]))
        else:
            parts.append(rng.choice(sorted(names) or ["a"]) if rng.random() < 0.97 else "zz")
    return " ".join(parts)


def stirred(test, rng, desk, model, many):
    """Say random lines, right and refused ones, to both; all answers and all that is shown agree."""
    refused = 0
    for _ in range(many):
        line = random_line(rng, model)
        copy = model.twin()
        answer = told_answer(copy.say, line)
        found = told_answer(desk.say if rng.random() < 0.5 else desk, line)
        if answer[0] == "answer":
            model.rules, model.memories, model.before = copy.rules, copy.memories, copy.before
            test.assertTrue(same(found, answer), line)
        else:
            refused += 1
            test.assertEqual(found[0], "raises", line)
        test.assertEqual(seen_on(desk), model.shown(), line)
    return refused


def told_answer(work, *values):
    """The answer of a call, or that it raised an error."""
    try:
        return "answer", work(*values)
    except (ValueError, AttributeError, TypeError, KeyError, IndexError):
        return "raises", None


def filled():
    """A desk with rules and memories."""
    desk = Desk()
    desk.run("padded p 4 2 1", "modulo q 4", "xor r 2 2", "memory x p 4", "memory y q 3")
    desk.run("store x 4 7", "load x 1 4", "unit y 1 1")
    return desk


class AnswersTest(unittest.TestCase):
    def test_against_whole_copies(self):
        rng, refused = rng_of(240), 0
        for _ in range(25):
            desk, model = Desk(), Copied()
            for line in ("padded a 4 2 1", "modulo b 4", "memory a a 4"):
                self.assertEqual((desk(line), model.say(line)), ("ok", "ok"))
            refused += stirred(self, rng, desk, model, 60)
            while model.before:
                self.assertEqual((desk.say("undo"), model.say("undo")), ("ok", "ok"))
                self.assertEqual(seen_on(desk), model.shown())
            self.assertEqual((desk("undo"), len(desk), desk("names")), ("nothing", 0, "- / -"))
        self.assertGreater(refused, 50)

    def test_rules(self):
        desk = Desk()
        lines = ["rule a moduli 4 ahead 1 2 round 0", "modulo b 3", "xor c 2 0", "padded d 4 2 1", "join e b c", "sum f d a",
                 "shift a 3", "cut c 3"]
        self.assertEqual(desk.run(*lines), ["ok"] * 8)
        wanted = {"a": Rule.modulo(4) << 3, "b": Rule.modulo(3), "c": Rule.xor(2).cut(3), "d": Rule.padded(4, 2, 1),
                  "e": Rule.modulo(3) * Rule.xor(2), "f": Rule.padded(4, 2, 1) + Rule.modulo(4)}
        self.assertEqual(desk.all_rules(), wanted)
        for name, rule in wanted.items():
            self.assertTrue(same(desk(f"show {name}"), str(rule)))
            self.assertEqual(desk(f"rule z {rule}"), "ok")
            self.assertEqual(desk.all_rules()["z"], rule)
            self.assertEqual(desk(f"bank {name} {GREAT}"), str(rule(GREAT)))

    def test_questions(self):
        desk, pad, four = Desk(), Rule.padded(4, 2, 1), Rule.modulo(4)
        desk.run("padded p 4 2 1", "modulo m 4", "rule u moduli 2 ahead - round 1")
        for stride in (0, 1, 2, 4, 12, 10 ** 20):
            for name, rule in (("p", pad), ("m", four)):
                for lanes in (2, 4, 16):
                    self.assertEqual(desk(f"free {name} {lanes} {stride}"), "yes" if is_free(rule, lanes, stride) else "no")
                    self.assertEqual(desk(f"worst {name} {lanes} {stride}"), str(worst(rule, lanes, stride).number))
                    pair = first_clash(rule, lanes, stride, 5)
                    self.assertEqual(desk(f"clash {name} {lanes} {stride} 5"), f"{pair[0]} {pair[1]}" if pair else "-")
        self.assertEqual(desk.run("next p 4 5", "next p 4 13", "next p 4 0", f"next m 4 {GREAT}", "next u 2 1"),
                         ["12", "20", "0", str(GREAT + 1), "-"])
        self.assertEqual(desk.run("count m 4 0", f"count m 4 {GREAT}", "count p 4 13", "count u 2 1"),
                         ["0", str(GREAT // 2 + 1), "3", "1"])
        self.assertEqual(desk.run("distance p 1", "distance u 1", f"distance m {GREAT}", "distance m 1"),
                         ["never", "meets 1", "meets 0", "never"])
        self.assertEqual(desk.run("tells p p", "tells m p", "tells p u", "same p p", "same m p", "same u p"),
                         ["yes", "no 0 4", "no 2 5", "yes", "no 0 4", "no 1 2"])
        self.assertEqual(desk.run("order p p 4", "order p m 4", "order m u 2", "order u m 2"),
                         ["alike", "apart", "better", "worse"])

    def test_memories(self):
        desk = filled()
        self.assertEqual(desk.run("word x 4", "word x 5", "clock x", "clock y", "names"), ["7", "0", "2", "1", "p q r / x y"])
        self.assertEqual(desk.run(f"store x {GREAT} {-GREAT}", f"load x {GREAT} 4", f"unit x {GREAT} {GREAT}"),
                         ["ok", f"{-GREAT} 7 in 1", str(Model(Rule.padded(4, 2, 1)).load_unit(GREAT, GREAT).ticks)])
        self.assertEqual(desk.run("load x 4 4", "back x", "back x", "back x", "back x"),
                         ["7 7 in 1", "load", "load", "load", "store"])
        self.assertEqual(len(desk.all_memories()["x"]), 2)

    def test_one_name_for_a_rule_and_a_memory(self):
        desk = Desk()
        desk.run("modulo a 4", "memory a a 2", "store a 1 5", "modulo a 8")
        self.assertEqual(desk.run("names", "word a 1", "bank a 7"), ["a / a", "5", "7"])
        # The memory keeps the rule that the name stood for.
        self.assertEqual(desk.all_memories()["a"].rule, Rule.modulo(4))

    def test_names(self):
        desk = Desk()
        self.assertEqual(desk("names"), "- / -")
        desk.run("modulo b 4", "modulo abcdefgh 2", "modulo a 3")
        self.assertEqual(desk("names"), "a abcdefgh b / -")
        desk.run("memory z a 2", "memory m a 2")
        self.assertEqual(desk("names"), "a abcdefgh b / m z")
        # First words of lines can be names as well.
        desk.run("modulo rule 5", "memory undo rule 2")
        self.assertEqual(desk("names"), "a abcdefgh b rule / m undo z")


class RefusedTest(unittest.TestCase):
    def refused(self, desk, line, error):
        """A line is refused with an error, and changes nothing."""
        before = seen_on(desk)
        found = told(desk.say, line)
        self.assertTrue(same(found, error) if found != "none" else False, (line, found))
        self.assertTrue(same(told(desk, line), error))
        self.assertEqual(seen_on(desk), before)

    def test_no_lines(self):
        desk = filled()
        others = ["", " ", "x", "Names", "names\n", " names", "\n", b"names", ["names"]]
        for value in without(lambda value: isinstance(value, str)) + others:
            self.refused(desk, value, (BadCommand, {"word": 0}))

    def test_words_left_out_put_in_and_exchanged(self):
        rng, desk, seen = rng_of(241), filled(), []
        right = {"rule": "rule z " + TEXTS[2], "modulo": "modulo z 3", "xor": "xor z 2 1", "padded": "padded z 4 2 1"}
        for word, kinds in TABLE.items():
            samples = {"a": "z", "m": "z", "A": "p", "B": "q", "C": "p", "M": "x", "N": "2", "W": "-5"}
            line = right.get(word) or " ".join([word] + [samples[kind] for kind in kinds.split()])
            parts = line.split(" ")
            self.assertIsNone(fault_of(line))
            self.assertEqual(told(desk.tried, lambda same_desk: same_desk(line)), "none", line)
            lines = [line + " ", " " + line, line + " 0", line + "\n", line.replace(" ", "  "), word, word + " ", word.upper()]
            for at in range(len(parts)):
                lines.append(" ".join(parts[:at]))
                lines.append(" ".join(parts[:at] + parts[at + 1:]))
                lines.append(" ".join(parts[:at + 1] + parts[at:]))
                for fresh in WORDS:
                    lines.append(" ".join(parts[:at] + [fresh] + parts[at + 1:]))
                    lines.append(" ".join(parts[:at] + [fresh] + parts[at:]))
                    other = rng.choice(WORDS)
                    lines.append(" ".join(parts[:at] + [fresh] + parts[at + 1:-1] + [other]))
            for other in lines:
                fault = fault_of(other)
                seen.append((word, fault))
                if fault is not None:
                    self.refused(desk, other, (BadCommand, {"word": fault}))
                else:
                    found = told(desk.tried, lambda same_desk: same_desk(other))
                    self.assertTrue(found == "none" or found[0] is not BadCommand, other)
        self.assertGreater(len(set(seen)), 90)

    def test_texts_of_rules(self):
        desk, seen = filled(), []
        for text in TEXTS:
            fault = fault_of("rule z " + text)
            seen.append(fault)
            if fault is None:
                self.assertEqual(desk.tried(lambda same_desk: same_desk.run("rule z " + text, "show z")), ["ok", text])
            else:
                self.refused(desk, "rule z " + text, (BadCommand, {"word": fault}))
        self.assertEqual(seen, [None] * 4 + [2, 7, 4, 3, 2, 2, 2, 8, 3, 9])
        self.refused(desk, "rule z", (BadCommand, {"word": 2}))
        self.refused(desk, "rule", (BadCommand, {"word": 1}))
        self.refused(desk, "rule Z moduli", (BadCommand, {"word": 1}))
        self.assertEqual(told(Rule.read, TEXTS[4]), (BadText, {"line": 0, "word": 0}))

    def test_bounds_of_numbers(self):
        desk = filled()
        for line, fault in ((f"bank p {GREAT}", None), (f"bank p {GREAT + 1}", 2), ("bank p -1", 2), ("bank p 00", 2),
                            (f"store x {GREAT} {GREAT}", None), (f"store x 0 {-GREAT}", None), (f"store x 0 {GREAT + 1}", 3),
                            (f"store x 0 {-GREAT - 1}", 3), ("store x 0 -0", 3), ("store x 0 --1", 3), ("store x 0 -", 3),
                            ("store x 0 +1", 3), ("store x 0 -01", 3), ("store x -1 0", 2), ("bank p \u0662", 2),
                            ("bank p 1_0", 2)):
            if fault is None:
                self.assertEqual(told(desk.tried, lambda same_desk: same_desk(line)), "none")
            else:
                self.refused(desk, line, (BadCommand, {"word": fault}))

    def test_names_from_left_to_right(self):
        desk = filled()
        for line, name in (("join a b c", "b"), ("join a p c", "c"), ("sum a b c", "b"), ("sum b q d", "d"),
                           ("shift a 99", "a"), ("cut z 99", "z"), ("memory a a 99", "a"), ("memory x y 99", "y"),
                           ("store p 1 1", "p"), ("load q 1 1", "q"), ("unit r 0 0", "r"), ("back p", "p"), ("show x", "x"),
                           ("clock p", "p"), ("word p 1", "p"), ("bank x 1", "x"), ("free x 99 1", "x"), ("next x 99 1", "x"),
                           ("count x 99 1", "x"), ("clash x 99 1 1", "x"), ("distance x 0", "x"), ("tells a b", "a"),
                           ("tells p b", "b"), ("same a b", "a"), ("same p b", "b"), ("order a b 99", "a"),
                           ("order p b 99", "b"), ("worst x 99 1", "x")):
            self.refused(desk, line, (NoName, {"name": name}))
        # What cannot stand is told ahead of names.
        for line, word in (("join a b", 3), ("shift a x", 2), ("order a b x", 3), ("back p 1", 2)):
            self.refused(desk, line, (BadCommand, {"word": word}))

    def test_what_is_called_raises(self):
        desk = filled()
        for line, error in (
                ("modulo a 33", (BadRule, {"part": "banks"})), ("modulo p 29", (TooMany, {"what": "places", "most": 24})),
                ("xor a 6 0", (BadRule, {"part": "bits"})), ("xor a 5 9", (BadRule, {"part": "folds"})),
                ("padded a 4 13 0", (BadRule, {"part": "every"})), ("padded a 4 2 4", (BadRule, {"part": "pad"})),
                ("sum a p r", (BadRule, {"part": "other"})), ("shift p 25", (BadNumber, {"value": 25})),
                ("shift q 24", (TooMany, {"what": "places", "most": 24})), ("cut p 25", (BadNumber, {"value": 25})),
                ("memory a p 17", (BadMemory, {"part": "lanes"})), ("memory x p 1", (BadMemory, {"part": "lanes"})),
                ("free p 17 1", (BadUnit, {"part": "lanes"})), ("next p 1 1", (BadUnit, {"part": "lanes"})),
                ("count p 0 1", (BadUnit, {"part": "lanes"})), ("clash p 17 1 1", (BadUnit, {"part": "lanes"})),
                ("distance p 0", (BadNumber, {"value": 0})), ("order p q 17", (BadUnit, {"part": "lanes"})),
                ("worst p 33 1", (BadTile, {"part": "lanes"})), (f"worst p 2 {GREAT}", (BadTile, {"part": "stride"}))):
            self.refused(desk, line, error)
        desk.run("back x", "back x", "back y")
        self.refused(desk, "back x", (Nothing, {}))
        desk.run("modulo t 32", "modulo s 2")
        self.refused(desk, "join a t s", (BadRule, {"part": "moduli"}))


class UndoTest(unittest.TestCase):
    def test_each_line(self):
        lines = ["rule p moduli 2 ahead - round 1", "modulo p 3", "xor z 1 1", "padded q 8 3 1", "join z p q", "sum p p p",
                 "shift p 2", "cut p 1", "memory x q 2", "memory z p 5", "store x 4 9", "store x 4 7", "store x 9 0",
                 "load x 4 9", "unit x 0 0", "back x", "back y"]
        desk = filled()
        for line in lines:
            before = seen_on(desk)
            desk(line)
            self.assertEqual(len(desk), before[2] + 1)
            self.assertEqual(desk("undo"), "ok")
            self.assertEqual(seen_on(desk), before, line)
        steps = []
        for line in lines:
            steps.append(seen_on(desk))
            desk(line)
        while steps:
            self.assertEqual(desk.say("undo"), "ok")
            self.assertEqual(seen_on(desk), steps.pop())
        self.assertEqual([desk("undo") for _ in range(9)], ["ok"] * 8 + ["nothing"])
        self.assertEqual(seen_on(desk), ({}, {}, 0))

    def test_questions_and_undo_are_no_lines_to_take_back(self):
        desk = filled()
        before = len(desk)
        desk.run("show p", "clock x", "word x 1", "names", "bank p 1", "free p 2 1", "next p 2 1", "count p 2 1",
                 "clash p 2 1 1", "distance p 1", "tells p q", "same p q", "order p q 2", "worst p 2 1")
        self.assertEqual(len(desk), before)
        desk("undo")
        desk("undo")
        self.assertEqual(len(desk), before - 2)

    def test_undo_of_back(self):
        desk = Desk()
        desk.run("modulo p 4", "memory x p 2", "store x 1 5", "store x 1 6", "unit x 0 4")
        self.assertEqual(desk.run("back x", "back x", "word x 1", "clock x"), ["load", "store", "5", "0"])
        self.assertEqual(desk.run("undo", "word x 1", "undo", "clock x"), ["ok", "6", "ok", "2"])
        self.assertEqual(len(desk.all_memories()["x"]), 3)
        self.assertEqual(desk.run("undo", "clock x", "back x", "undo", "undo", "undo", "names"),
                         ["ok", "0", "store", "ok", "ok", "ok", "p / x"])
        self.assertEqual((desk("word x 1"), len(desk)), ("0", 2))

    def test_a_memory_that_was_replaced(self):
        desk = Desk()
        desk.run("modulo p 4", "memory x p 2", "store x 1 5", "memory x p 3", "store x 1 8", "store x 2 9")
        self.assertEqual([desk("undo") for _ in range(3)], ["ok"] * 3)
        memory = desk.all_memories()["x"]
        self.assertEqual(shown(memory), (Rule.modulo(4), 2, 0, 1, [(1, 5)]))
        self.assertEqual(desk.run("back x", "word x 1", "undo", "word x 1"), ["store", "0", "ok", "5"])


class RunTest(unittest.TestCase):
    def test_a_run_that_fails_leaves_all_as_it_was(self):
        rng, seen = rng_of(242), []
        for _ in range(40):
            desk, model = Desk(), Copied()
            for line in ("padded a 4 2 1", "modulo b 4", "memory a a 4"):
                self.assertEqual((desk(line), model.say(line)), ("ok", "ok"))
            stirred(self, rng, desk, model, 10)
            for _ in range(4):
                copy, lines, answers = model.twin(), [], []
                for _ in range(rng.randrange(8)):
                    line = random_line(rng, copy)
                    lines.append(line)
                    found = told_answer(copy.say, line)
                    if found[0] == "raises":
                        break
                    answers.append(found[1])
                is_done = len(answers) == len(lines)
                seen.append(is_done)
                if is_done:
                    self.assertTrue(same(desk.run(*lines), answers))
                    model = copy
                else:
                    self.assertEqual(told_answer(desk.run, *lines), ("raises", None))
                self.assertEqual(seen_on(desk), model.shown())
            while model.before:
                self.assertEqual((desk.say("undo"), model.say("undo")), ("ok", "ok"))
                self.assertEqual(seen_on(desk), model.shown())
        self.assertGreater(min(seen.count(True), seen.count(False)), 30)

    def test_replaced_memories_in_a_run_that_fails(self):
        desk = Desk()
        desk.run("modulo p 4", "memory x p 2", "store x 1 5", "memory x p 3")
        before = seen_on(desk)
        for lines in (("undo", "store x 1 6", "store x 2 7", "zz"), ("undo", "undo", "undo", "back x"),
                      ("undo", "back x", "zz"), ("undo", "undo", "undo", "undo", "names", "show p")):
            self.assertNotEqual(told(desk.run, *lines), "none")
            self.assertEqual(seen_on(desk), before)
        desk("undo")
        self.assertEqual(shown(desk.all_memories()["x"]), (Rule.modulo(4), 2, 0, 1, [(1, 5)]))

    def test_errors_go_on(self):
        desk = filled()
        self.assertEqual(desk.run(), [])
        self.assertEqual(told(desk.run, "store x 1 1", "show zz", "x"), (NoName, {"name": "zz"}))
        self.assertEqual(told(desk.run, "store x 1 1", None), (BadCommand, {"word": 0}))
        self.assertEqual(told(desk.run, "modulo p 33"), (BadRule, {"part": "banks"}))
        self.assertEqual(told(desk.run, "back y", "back y"), (Nothing, {}))
        self.assertEqual(seen_on(desk), seen_on(filled()))

    def test_what_is_returned_belongs_to_the_caller(self):
        desk = filled()
        before = seen_on(desk)
        self.assertTrue(type(desk.all_rules()) is dict and type(desk.all_memories()) is dict)
        desk.all_rules().clear()
        memories = desk.all_memories()
        memories["x"][4] = 99
        memories["x"].undo()
        memories["x"].swap(Rule.modulo(2))
        memories.clear()
        desk.run("names").clear()
        self.assertEqual(seen_on(desk), before)
        self.assertIs(type(desk.all_memories()["x"]), Memory)


class TrialTest(unittest.TestCase):
    def test_blocks_in_blocks(self):
        rng = rng_of(243)
        for _ in range(15):
            desk, model = Desk(), Copied()
            for line in ("padded a 4 2 1", "modulo b 4", "memory a a 4"):
                self.assertEqual((desk(line), model.say(line)), ("ok", "ok"))
            stirred(self, rng, desk, model, 8)
            before = seen_on(desk)
            with desk.trial() as same_desk:
                self.assertIs(same_desk, desk)
                inner = model.twin()
                stirred(self, rng, desk, inner, 8)
                between = seen_on(desk)
                with desk.trial() as again:
                    self.assertIs(again, desk)
                    stirred(self, rng, desk, inner.twin(), 8)
                self.assertEqual(seen_on(desk), between)
                stirred(self, rng, desk, inner, 8)
            self.assertEqual(seen_on(desk), before)
            stirred(self, rng, desk, model, 8)

    def test_errors(self):
        desk = filled()
        before = seen_on(desk)
        for error in (KeyError, KeyboardInterrupt):
            with self.assertRaises(error):
                with desk.trial():
                    desk.run("store x 1 1", "undo", "undo", "undo", "modulo p 2")
                    with desk.trial():
                        desk("back x")
                        raise error
            self.assertEqual(seen_on(desk), before)
        self.assertEqual(told(desk.tried, lambda same_desk: (same_desk("undo"), same_desk("show x"))), (NoName, {"name": "x"}))
        self.assertEqual(seen_on(desk), before)

    def test_tried(self):
        desk, seen = filled(), []
        before = seen_on(desk)

        def work(same_desk):
            seen.append(same_desk is desk)
            same_desk("store x 1 9")
            return same_desk.tried(lambda again: again.run("undo", "word x 1")), same_desk("word x 1"), len(same_desk)

        self.assertEqual(desk.tried(work), ((["ok", "0"]), "9", 9))
        self.assertIs(desk.tried(work=lambda same_desk: None), None)
        self.assertEqual((seen, seen_on(desk)), ([True], before))

    def test_by_name(self):
        desk = filled()
        self.assertEqual((desk.say(line="word x 4"), desk(line="word x 4")), ("7", "7"))
        for value in (Desk(), filled(), None, 0):
            self.assertIs(desk == value, False)
        self.assertIs(desk == desk, True)


class TimeTest(unittest.TestCase):
    def test_long_rows_of_lines(self):
        begin = time.perf_counter()
        desk = Desk()
        desk.run("xor p 5 4", "memory x p 16", *[f"store x {at * at} {at}" for at in range(10000)])
        for at in range(200):
            desk.run(f"unit x {at} {GREAT}", "back x", "undo")
            told(desk.run, "undo", "undo", "zz")
            desk.tried(lambda same_desk: same_desk.run("undo", "undo"))
        self.assertEqual(len(desk), 10202)
        while desk("undo") == "ok":
            pass
        self.assertEqual(desk("names"), "- / -")
        self.assertLess(time.perf_counter() - begin, 20)


if __name__ == "__main__":
    unittest.main()
