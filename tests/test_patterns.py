"""Patterns of addresses, and their texts."""

import unittest

from helping import ANY, rng_of, same, told, whole, without, wrong_word
from lanebanks.errors import BadNumber, BadText, BadTile, TooMany
from lanebanks.tiles import Pattern

GREAT, FAR = 10 ** 30, 10 ** 28
STRANGE = ["", "x", "-", "-1", "00", "07", "+1", " ", "1\n", "0", "1", "2", "5", "9", "40", str(GREAT), str(GREAT + 1),
           "9" * 40, "True", "0x1", "1_0"]


def stands(words):
    """Whether words are the text of a pattern."""
    if not 1 <= len(words) <= 32 or not all(word.isascii() and word.isdigit() for word in words):
        return False
    numbers = [int(word) for word in words]
    return ([str(number) for number in numbers] == words and all(number <= GREAT for number in numbers)
            and all(one < other for one, other in zip(numbers, numbers[1:])))


class OffsetsTest(unittest.TestCase):
    def test_any_order_and_equal_ones(self):
        rng = rng_of(110)
        for _ in range(200):
            offsets = [rng.choice([rng.randrange(9), rng.randrange(GREAT + 1)]) for _ in range(rng.randint(1, 32))]
            pattern = Pattern(*offsets)
            wanted = tuple(sorted(set(offsets)))
            self.assertTrue(same(pattern.offsets, wanted))
            self.assertTrue(same(list(pattern), list(wanted)))
            self.assertEqual([offset for offset in pattern], list(wanted))
            self.assertEqual(len(pattern), len(wanted))
            self.assertEqual(str(pattern), " ".join(str(offset) for offset in wanted))
            self.assertEqual(pattern, Pattern(*wanted[::-1]))
            gaps = tuple(sorted({b - a for a in wanted for b in wanted if a < b}))
            self.assertTrue(same(pattern.gaps(), gaps))
            for value in offsets + [rng.randrange(9), GREAT, 10 ** 50]:
                self.assertIs(value in pattern, value in wanted)

    def test_few_and_many(self):
        for values in ((0,), (GREAT,), (5, 5, 5)):
            self.assertEqual(Pattern(*values).offsets, values[:1])
            self.assertEqual(Pattern(*values).gaps(), ())
        self.assertEqual(Pattern(*range(32), *range(32)).offsets, tuple(range(32)))
        self.assertEqual(told(Pattern, *range(33)), (TooMany, {"what": "offsets", "most": 32}))
        self.assertEqual(told(Pattern, *range(32), 0, GREAT), (TooMany, {"what": "offsets", "most": 32}))
        self.assertEqual(len(Pattern(*[GREAT - at for at in range(32)]).gaps()), 31)

    def test_wrong_offsets(self):
        for value in without(lambda value: whole(value, 0, GREAT)) + [-1, GREAT + 1]:
            self.assertEqual(told(Pattern, value), (BadTile, {"part": 0}))
            self.assertEqual(told(Pattern, 3, 3, value, -1), (BadTile, {"part": 2}))
            self.assertEqual(told(Pattern, *range(40), value), (BadTile, {"part": 40}))
        self.assertEqual(told(Pattern), (BadTile, {"part": "offsets"}))
        self.assertEqual(told(Pattern, *range(40), True), (BadTile, {"part": 40}))

    def test_only_integers_are_offsets(self):
        pattern = Pattern(0, 1, 2)
        for value in without(lambda value: whole(value, 0, 2)) + [0.0, 1.0]:
            self.assertIs(value in pattern, False)

    def test_equality(self):
        pattern = Pattern(0, 3)
        self.assertIs(pattern == Pattern(3, 0, 3), True)
        self.assertIs(pattern == Pattern(0, 4), False)
        self.assertIs(pattern != Pattern(3, 0), False)
        for value in without(lambda value: isinstance(value, Pattern)) + [(0, 3), [0, 3], "0 3"]:
            self.assertIs(pattern == value, False)
        self.assertIs(bool(pattern), True)


class MadeTest(unittest.TestCase):
    def test_strided(self):
        for lanes in (1, 2, 7, 32):
            for stride in (0, 1, 5, 10 ** 20, FAR):
                wanted = Pattern(*[lane * stride for lane in range(lanes)])
                self.assertEqual(Pattern.strided(lanes, stride), wanted)
                self.assertEqual(Pattern.strided(stride=stride, lanes=lanes), wanted)
        self.assertIs(type(Pattern(1).strided(2, 3)), Pattern)

    def test_tiled(self):
        for width in (1, 2, 4, 32):
            for height in (1, 3, 4, 8, 32):
                for pitch in (0, 1, 2, 3, 31, 32, 10 ** 20, FAR):
                    offsets = {x + y * pitch for x in range(width) for y in range(height)}
                    if len(offsets) > 32:
                        error = (TooMany, {"what": "offsets", "most": 32})
                        self.assertEqual(told(Pattern.tiled, width, height, pitch), error)
                    else:
                        self.assertEqual(Pattern.tiled(width, height, pitch), Pattern(*offsets))
                        self.assertEqual(Pattern.tiled(pitch=pitch, height=height, width=width), Pattern(*offsets))

    def test_errors_in_order(self):
        for value in without(lambda value: whole(value, 1, 32)) + [0, 33]:
            self.assertEqual(told(Pattern.strided, value, -1), (BadTile, {"part": "lanes"}))
            self.assertEqual(told(Pattern.tiled, value, 0, -1), (BadTile, {"part": "width"}))
            self.assertEqual(told(Pattern.tiled, 32, value, -1), (BadTile, {"part": "height"}))
        for value in without(lambda value: whole(value, 0, FAR)) + [FAR + 1, -1]:
            self.assertEqual(told(Pattern.strided, 2, value), (BadTile, {"part": "stride"}))
            self.assertEqual(told(Pattern.tiled, 32, 32, value), (BadTile, {"part": "pitch"}))


class SignsTest(unittest.TestCase):
    def test_joined_and_held(self):
        rng = rng_of(111)
        for _ in range(200):
            one, other = [[rng.randrange(20) for _ in range(rng.randint(1, 6))] for _ in range(2)]
            self.assertEqual(Pattern(*one) | Pattern(*other), Pattern(*one, *other))
            self.assertIs(Pattern(*one) <= Pattern(*other), set(one) <= set(other))
            self.assertIs(Pattern(*one) <= (Pattern(*one) | Pattern(*other)), True)
            self.assertIs(Pattern(*one) >= Pattern(*other), set(one) >= set(other))
        self.assertEqual(len(Pattern(*range(20)) | Pattern(*range(32))), 32)
        error = (TooMany, {"what": "offsets", "most": 32})
        self.assertEqual(told(lambda: Pattern(*range(20)) | Pattern(*range(13, 33))), error)

    def test_moved(self):
        for offsets in ((0,), (3, 5), (0, 10 ** 29)):
            for more in (0, 1, 10 ** 20, 9 * 10 ** 29):
                self.assertEqual((Pattern(*offsets) + more).offsets, tuple(offset + more for offset in offsets))
        pattern = Pattern(0, 5, 9, GREAT)
        self.assertEqual(told(lambda: pattern + 1), (BadTile, {"part": 3}))
        self.assertEqual(told(lambda: pattern + (GREAT - 5)), (BadTile, {"part": 2}))
        self.assertEqual(told(lambda: pattern + GREAT), (BadTile, {"part": 1}))
        self.assertEqual((Pattern(0) + GREAT).offsets, (GREAT,))
        self.assertEqual(pattern.offsets, (0, 5, 9, GREAT))

    def test_errors(self):
        pattern = Pattern(0, 5)
        for value in without(lambda value: isinstance(value, Pattern)):
            self.assertEqual(told(lambda: pattern | value), (BadTile, {"part": "other"}))
            self.assertEqual(told(lambda: pattern <= value), (BadTile, {"part": "other"}))
        for value in without(lambda value: whole(value, 0, GREAT)) + [GREAT + 1, -1]:
            self.assertTrue(same(told(lambda: pattern + value), (BadNumber, {"value": value})))


class TextTest(unittest.TestCase):
    def test_text_and_back(self):
        rng = rng_of(112)
        for _ in range(100):
            pattern = Pattern(*[rng.randrange(2 ** rng.randint(1, 99)) for _ in range(rng.randint(1, 32))])
            back = Pattern.read(str(pattern))
            self.assertEqual((back, type(back), str(back)), (pattern, Pattern, str(pattern)))
            self.assertEqual(Pattern.read(text=str(pattern)), pattern)
        self.assertEqual(str(Pattern(0, GREAT)), f"0 {GREAT}")
        self.assertEqual(Pattern.read(str(GREAT)), Pattern(GREAT))

    def test_no_string(self):
        for value in without(lambda value: type(value) is str) + [Pattern(0)]:
            self.assertEqual(told(Pattern.read, value), (BadText, {"line": 0, "word": 0}))

    def check(self, words):
        text, wanted = " ".join(words), wrong_word(words, stands, [[]])
        if wanted is None:
            self.assertEqual(Pattern.read(text), Pattern(*[int(word) for word in words]))
        else:
            self.assertEqual(told(Pattern.read, text), (BadText, {"line": 0, "word": wanted}), text)

    def test_words(self):
        for text, word in (("", 0), (" ", 0), ("0 ", 1), (" 0", 0), ("0  1", 1), ("1 1", 1), ("3 2 1", 1), ("0 x", 1),
                           (str(GREAT + 1), 0), ("0 01", 1), ("-1", 0), ("0\n", 0), ("0,1", 0)):
            self.assertEqual(told(Pattern.read, text), (BadText, {"line": 0, "word": word}))
        many = " ".join(str(at) for at in range(32))
        self.assertEqual(len(Pattern.read(many)), 32)
        for more in (" 32", " 0", " x", " "):
            self.assertEqual(told(Pattern.read, many + more), (BadText, {"line": 0, "word": 32}))

    def test_words_left_out_put_in_exchanged_doubled(self):
        rng = rng_of(113)
        for many in (1, 2, 3, 5, 31, 32):
            words = [str(offset) for offset in Pattern(*rng.sample(range(200), many))]
            for at in range(len(words) + 1):
                if len(words) > 1:
                    self.check(words[:at] + words[at + 1:])
                self.check(words[:at] + words[at:at + 1] + words[at:])
                for word in STRANGE:
                    self.check(words[:at] + [word] + words[at:])
                    self.check(words[:at] + [word] + words[at + 1:])
                other = rng.randrange(len(words))
                swapped = list(words)
                swapped[at - 1], swapped[other] = swapped[other], swapped[at - 1]
                self.check(swapped)


if __name__ == "__main__":
    unittest.main()
