"""Texts of bank rules."""

import re
import unittest

from helping import ANY, random_rule, rng_of, told, wrong_word
from lanebanks.errors import BadText
from lanebanks.rules import Rule

WHOLE = ["moduli", "2", "ahead", "-", "round", "0"]
# What can follow words that may stand, so that they become a whole text.
ENDS = [WHOLE[at:] for at in range(len(WHOLE) + 1)] + [["0", "round", "0"]]
STRANGE = ["", "x", "-", "--", "-1", "00", "02", "+2", "0", "1", "2", "3", "4", "8", "16", "17", "31", "32", "33",
           "320", "moduli", "ahead", "round", "Round", "round\n", "2\n", "/", "9" * 4000]


def stands(words):
    """Whether words are a whole text of a rule, in the normal form or not."""
    number = "(0|[1-9][0-9]{0,2})"
    form = f"moduli((?: {number}){{1,5}}) ahead( -|(?: {number})+) round((?: {number})+)"
    match = re.fullmatch(form, " ".join(words))
    if match is None:
        return False
    moduli, ahead, turn = [[int(word) for word in text.split() if word != "-"] for text in match.group(1, 3, 5)]
    banks = 1
    for modulus in moduli:
        banks *= modulus
    return (all(2 <= modulus <= 32 for modulus in moduli) and banks <= 32 and len(ahead) < 24
            and len(ahead) + len(turn) <= 24 and all(weight < banks for weight in ahead + turn))


class RuleTextTest(unittest.TestCase):
    def test_text_and_back(self):
        rng = rng_of(50)
        for _ in range(200):
            rule = random_rule(rng, None, 12, 12)
            ahead = " ".join(str(weight) for weight in rule.ahead) or "-"
            moduli, turn = [" ".join(str(number) for number in row) for row in (rule.moduli, rule.turn)]
            self.assertEqual(str(rule), f"moduli {moduli} ahead {ahead} round {turn}")
            back = Rule.read(str(rule))
            self.assertEqual((back, type(back), str(back)), (rule, Rule, str(rule)))
            self.assertEqual(Rule.read(text=str(rule)), rule)

    def test_no_string(self):
        for value in ANY + [WHOLE, tuple(WHOLE), Rule.modulo(2)]:
            if type(value) is not str:
                self.assertEqual(told(Rule.read, value), (BadText, {"line": 0, "word": 0}))

    def test_words(self):
        for text, word in (
                ("", 0), (" ", 0), ("moduli", 1), ("moduli ", 1), ("moduli ahead", 1), ("moduli 1", 1),
                ("moduli 33", 1), ("moduli 02", 1), ("moduli 4 9", 2), ("moduli 2 2 2 2 2 2", 6),
                ("moduli 2 2 2 2 2", 6), ("moduli 4", 2),
                ("moduli 4 ahead", 3), ("moduli 4 round", 2), ("moduli 4 ahead round", 3), ("moduli 4 ahead 4", 3),
                ("moduli 4 ahead -", 4), ("moduli 4 ahead - 1", 4), ("moduli 4 ahead 1 -", 4), ("moduli 4 ahead 1", 4),
                ("moduli 4 ahead - round", 5), ("moduli 4 ahead - round 4", 5), ("moduli 4 ahead - round -", 5),
                ("moduli 4 ahead - round 0 ", 6), ("moduli 4 ahead - round 0 x", 6), ("moduli  4", 1),
                ("moduli 4 ahead - round 0\n", 5), (" moduli 4 ahead - round 0", 0), ("Moduli 4", 0), ("moduli 1 x", 1),
                ("moduli 4 ahead - round 0 0", 0), ("moduli 4 ahead 0 round 0", 0), ("moduli 4 ahead 1 2 round 1 2", 0),
                ("moduli 4 ahead 2 round 1 2", 0)):
            self.assertEqual(told(Rule.read, text), (BadText, {"line": 0, "word": word}), text)

    def test_most_places(self):
        begin = "moduli 2 ahead" + " 1" * 23
        self.assertEqual(Rule.read(begin + " round 0"), Rule((2,), [1] * 23, [0]))
        for more in (" 1", " 1 round 0", " x"):
            self.assertEqual(told(Rule.read, begin + more), (BadText, {"line": 0, "word": 26}))
        self.assertEqual(told(Rule.read, begin), (BadText, {"line": 0, "word": 26}))
        for more in (" 0", " 1", " x", " 0 0"):
            self.assertEqual(told(Rule.read, begin + " round 0" + more), (BadText, {"line": 0, "word": 28}))
        around = "moduli 2 ahead - round" + " 0" * 23 + " 1"
        self.assertEqual(Rule.read(around).classes, 24)
        self.assertEqual(told(Rule.read, around + " 1"), (BadText, {"line": 0, "word": 29}))
        half = "moduli 2 ahead" + " 1" * 11 + " 0 round" + " 0" * 11 + " 1"
        self.assertEqual(Rule.read(half).classes, 24)
        self.assertEqual(told(Rule.read, half + " 1"), (BadText, {"line": 0, "word": 28}))

    def check(self, words):
        text, wanted = " ".join(words), wrong_word(words, stands, ENDS)
        if wanted is None:
            at = words.index("round")
            split = words.index("ahead")
            ahead = [] if words[split + 1] == "-" else [int(word) for word in words[split + 1:at]]
            rule = Rule([int(word) for word in words[1:split]], ahead, [int(word) for word in words[at + 1:]])
            if str(rule) == text:
                self.assertEqual(Rule.read(text), rule)
                return
            wanted = 0
        self.assertEqual(told(Rule.read, text), (BadText, {"line": 0, "word": wanted}), text)

    def test_words_left_out_put_in_exchanged_doubled(self):
        rng = rng_of(51)
        rules = [random_rule(rng) for _ in range(8)] + [Rule.xor(5), Rule.modulo(8), Rule((2, 2), [1] * 21, [0, 2])]
        for rule in rules:
            words = str(rule).split(" ")
            for at in range(len(words) + 1):
                self.check(words[:at] + words[at + 1:])
                self.check(words[:at])
                self.check(words[:at] + words[at:at + 1] + words[at:])
                for word in STRANGE:
                    self.check(words[:at] + [word] + words[at:])
                    self.check(words[:at] + [word] + words[at + 1:])
                for other in range(min(at, len(words) - 1)):
                    swapped = list(words)
                    swapped[at - 1], swapped[other] = swapped[other], swapped[at - 1]
                    self.check(swapped)


if __name__ == "__main__":
    unittest.main()
