"""Texts of digit sets."""

import unittest

from helping import ANY, random_set, random_table, rng_of, told, wrong_word
from lanebanks.errors import BadSet, BadText
from lanebanks.sets import NumberSet

ENDS = [[], ["0", "+"], ["+"], ["0", "0", "+"]]
STRANGE = ["", "x", "-1", "00", "01", "+1", "1.", "2000", "1999", "20000", "0", "1", "+", "-", "/", "//", "\n",
           "0\n", "++", "9" * 4000]


def stands(words):
    """Whether words are a whole text of a set, its numbers being states or not."""
    if len(words) % 4 != 3 or len(words) > 7999:
        return False
    for at, word in enumerate(words):
        if at % 4 < 2 and not (word.isdigit() and len(word) < 5 and word == str(int(word)) and int(word) < 2000):
            return False
        if at % 4 == 2 and word not in ["+", "-"] or at % 4 == 3 and word != "/":
            return False
    return True


class SetTextTest(unittest.TestCase):
    def test_text_and_back(self):
        rng = rng_of(30)
        sets = [random_set(rng, 9) for _ in range(100)] + [NumberSet(*random_table(rng, many)) for many in (50, 2000)]
        for one in sets:
            rows = [f"{zero} {high} {'-+'[mark]}" for (zero, high), mark in zip(one.nexts, one.marks)]
            self.assertEqual(str(one), " / ".join(rows))
            back = NumberSet.read(str(one))
            self.assertEqual((back, type(back), str(back)), (one, NumberSet, str(one)))
        self.assertEqual(NumberSet.read(text="0 0 +"), NumberSet.every())
        self.assertEqual(NumberSet.none().read("0 0 +"), NumberSet.every())

    def test_two_thousand_states(self):
        nexts = [(at, (at + 1) % 2000) for at in range(2000)]
        one = NumberSet(nexts, [at == 0 for at in range(2000)])
        self.assertEqual(NumberSet.read(str(one)), one)
        for more in (" /", " / 0 0 -", " / 0", " / x"):
            self.assertEqual(told(NumberSet.read, str(one) + more), (BadText, {"line": 0, "word": 7999}))
        self.assertEqual(told(NumberSet.read, str(one) + " 0"), (BadText, {"line": 0, "word": 7999}))
        self.assertEqual(told(NumberSet.read, str(one)[:-2]), (BadText, {"line": 0, "word": 7998}))

    def test_no_string(self):
        for value in ANY + [["0 0 +"], ("0", "0", "+"), NumberSet.every()]:
            if type(value) is not str:
                self.assertEqual(told(NumberSet.read, value), (BadText, {"line": 0, "word": 0}))

    def test_empty_words(self):
        for text, word in (("", 0), (" ", 0), ("0", 1), ("0 ", 1), ("0 0", 2), ("0 0 ", 2), ("0 0 + ", 3),
                           (" 0 0 +", 0), ("0  0 +", 1), ("0 0 + /", 4), ("0 0 + / ", 4), ("0 0 +\n", 2),
                           ("0 0 + /  0", 4), ("0 0 + 0 0 +", 3), ("0\n0 +", 0), ("0 0 + / 0 0", 6),
                           ("0 0 + / 0", 5), ("+", 0)):
            self.assertEqual(told(NumberSet.read, text), (BadText, {"line": 0, "word": word}), text)

    def check(self, words):
        text = " ".join(words)
        wanted = wrong_word(words, stands, ENDS)
        if wanted is not None:
            self.assertEqual(told(NumberSet.read, text), (BadText, {"line": 0, "word": wanted}), text)
            return
        nexts = [(int(words[at]), int(words[at + 1])) for at in range(0, len(words), 4)]
        marks = [words[at] == "+" for at in range(2, len(words), 4)]
        error = told(NumberSet, nexts, marks)
        if error != "none":
            self.assertEqual(told(NumberSet.read, text), error, text)
        elif str(NumberSet(nexts, marks)) != text:
            self.assertEqual(told(NumberSet.read, text), (BadText, {"line": 0, "word": 0}), text)
        else:
            self.assertEqual(str(NumberSet.read(text)), text)

    def test_words_left_out_put_in_exchanged_doubled(self):
        rng = rng_of(31)
        for _ in range(12):
            words = str(random_set(rng, 4)).split(" ")
            for at in range(len(words) + 1):
                self.check(words[:at] + words[at + 1:])
                self.check(words[:at])
                self.check(words[:at] + words[at:at + 1] + words[at:])
                for word in STRANGE:
                    self.check(words[:at] + [word] + words[at:])
                    self.check(words[:at] + [word] + words[at + 1:])
                for other in range(at):
                    swapped = list(words) + ["0"]
                    swapped[at], swapped[other] = swapped[other], swapped[at]
                    self.check(swapped)
                    self.check(swapped[:-1])

    def test_errors_when_all_words_can_stand(self):
        for text in ("0 1 +", "0 1999 -", "1 0 + / 0 0 + / 3 0 -"):
            self.assertEqual(told(NumberSet.read, text), (BadSet, {"part": "nexts"}))
        for text in ("1 0 + / 1 0 -", "0 0 + / 0 0 -", "0 1 - / 0 0 +"):
            self.assertEqual(told(NumberSet.read, text), (BadSet, {"part": "zeros"}))
        for text in ("0 0 + / 1 1 -", "1 1 + / 0 0 +", "2 1 + / 1 1 - / 2 2 +", "0 1 + / 1 1 +"):
            self.assertEqual(told(NumberSet.read, text), (BadText, {"line": 0, "word": 0}))


if __name__ == "__main__":
    unittest.main()
