"""Rules that are made for patterns: paddings, weights, fewest banks."""

import time
import unittest
from itertools import product

from helping import banks_seen, rng_of, same, told, whole, without
from lanebanks.distances import is_distance
from lanebanks.errors import BadRule, BadTile, TooMany
from lanebanks.made import Padded, Unpadded, Unweighted, Weighted, fewest_banks, first_padding, first_weights
from lanebanks.rules import Rule
from lanebanks.tiles import Clear, Jam, Pattern, clear


def is_clear_by(rule, patterns):
    """Whether no gap of the patterns is a distance."""
    return not any(is_distance(rule, gap) for pattern in patterns for gap in pattern.gaps())


def random_patterns(rng, offsets=4, most=1):
    """Some patterns of few offsets, near or far ones."""
    size = rng.choice((4, 8, 20, 100, 10 ** 30))
    return [Pattern(*[rng.randrange(size) for _ in range(rng.randint(1, offsets))]) for _ in range(rng.randint(1, most))]


def raised(banks, every):
    """What Rule.padded raises of the first of all pads for which it raises something, None if it never does."""
    errors = [told(Rule.padded, banks, every, pad) for pad in range(banks)]
    return ([error for error in errors if error != "none"] + [None])[0]


class MadeTest(unittest.TestCase):
    def check_jam(self, rule, patterns, pair):
        """A pair of an index of a pattern and a Jam of two of its offsets that meet at a start."""
        self.assertTrue(type(pair) is tuple and len(pair) == 2 and whole(pair[0], 0, len(patterns) - 1))
        jam = pair[1]
        self.assertTrue(type(jam) is Jam and type(jam.start) is int and jam.start >= 0)
        self.assertTrue(jam.one < jam.other and jam.one in patterns[pair[0]] and jam.other in patterns[pair[0]])
        one, other = banks_seen(rule, jam.start, (jam.one, jam.other))
        self.assertEqual(one, other)

    def check_papers(self, rule, patterns, papers):
        """What clear tells of the patterns, and all are clear."""
        self.assertTrue(type(papers) is tuple and all(type(paper) is Clear for paper in papers))
        self.assertEqual(papers, tuple(clear(rule, pattern) for pattern in patterns))


class PaddingTest(MadeTest):
    def check(self, banks, every, patterns):
        paper = first_padding(banks, every, *patterns)
        pads = [pad for pad in range(banks) if is_clear_by(Rule.padded(banks, every, pad), patterns)]
        self.assertIs(bool(paper), pads != [])
        self.assertEqual(len(paper.jams), pads[0] if pads else banks)
        self.assertIs(type(paper.jams), tuple)
        for pad, pair in enumerate(paper.jams):
            self.check_jam(Rule.padded(banks, every, pad), patterns, pair)
        if pads:
            self.assertTrue(type(paper) is Padded and same(paper.pad, pads[0]))
            self.check_papers(Rule.padded(banks, every, paper.pad), patterns, paper.papers)
        else:
            self.assertIs(type(paper), Unpadded)
        self.assertEqual(paper, first_padding(banks, every, *patterns))
        return paper

    def test_all_banks(self):
        rng, seen = rng_of(180), []
        for banks in range(2, 33):
            for every in (1, rng.randint(2, 12), rng.randint(2, 6)):
                if raised(banks, every) is None:
                    column = Pattern.strided(2, rng.choice((2 ** every, banks, 3 * banks)))
                    for patterns in (random_patterns(rng, 2, 3), random_patterns(rng, 4, 3), [column]):
                        seen.append(self.check(banks, every, patterns))
        pads = [paper.pad for paper in seen if paper]
        self.assertGreater(len([pad for pad in pads if pad > 0]), 10)
        self.assertGreater(pads.count(0), 10)
        self.assertGreater(len(seen) - len(pads), 10)

    def test_known_pads(self):
        self.assertEqual(self.check(4, 2, [Pattern.strided(4, 4)]).pad, 1)
        self.assertEqual(self.check(4, 2, [Pattern.strided(4, 1)]).pad, 0)
        self.assertIs(bool(self.check(4, 2, [Pattern.strided(4, 1), Pattern.strided(4, 4)])), False)
        self.assertEqual(self.check(32, 5, [Pattern.strided(32, 32)]).pad, 1)
        self.assertEqual(self.check(7, 3, [Pattern(5)]), Padded(0, (), (Clear({}),)))

    def test_the_index_of_a_pattern(self):
        one, many = Pattern(0), Pattern.strided(5, 1)
        self.assertEqual([pair[0] for pair in self.check(4, 2, [one, one, many]).jams], [2, 2, 2, 2])

    def test_many_offsets_in_a_short_time(self):
        rng, begin = rng_of(181), time.perf_counter()
        for banks in (16, 27, 31, 32):
            for pattern in (Pattern.strided(32, 1), Pattern.strided(32, 5 ** 20),
                            Pattern(*[rng.randrange(10 ** 30) for _ in range(32)])):
                first_padding(banks, 3, pattern, pattern)
        self.assertLess(time.perf_counter() - begin, 20)

    def test_errors_in_order(self):
        for value in without(lambda value: whole(value, 2, 32)) + [1]:
            self.assertEqual(told(first_padding, value, 0, 0), (BadRule, {"part": "banks"}))
        for value in without(lambda value: whole(value, 1, 12)) + [13]:
            self.assertEqual(told(first_padding, 4, value, 0), (BadRule, {"part": "every"}))
        self.assertEqual(told(first_padding, 29, 12), (BadTile, {"part": "patterns"}))
        for value in without(lambda value: isinstance(value, Pattern)):
            self.assertEqual(told(first_padding, 29, 12, value), (BadTile, {"part": 0}))
            self.assertEqual(told(first_padding, 4, 2, Pattern(0), Pattern(1), value, value), (BadTile, {"part": 2}))
        self.assertEqual(told(first_padding, 29, 12, Pattern(0)), (TooMany, {"what": "places", "most": 24}))

    def test_what_padded_raises(self):
        seen = []
        for banks in range(2, 33):
            for every in range(1, 13):
                wanted = raised(banks, every)
                seen.append((wanted is None, told(Rule.padded, banks, every, 0) == "none"))
                # The pad 0 would do for a single address.
                self.assertEqual(told(first_padding, banks, every, Pattern(3)), wanted or "none")
        self.assertEqual(set(seen), {(True, True), (False, True), (False, False)})


class WeightsTest(MadeTest):
    def check_tree(self, banks, places, patterns, tree, weights):
        """A tree for these first weights; returns how many pairs it has."""
        self.assertIs(type(tree), tuple)
        if len(tree) == 2 and isinstance(tree[1], Jam):
            self.check_jam(Rule((banks,), weights, (0,)), patterns, tree)
            if len(weights) < places:
                self.assertLess(tree[1].start + tree[1].other, 2 ** len(weights))
            return 1
        self.assertEqual(len(tree), banks)
        self.assertLess(len(weights), places)
        return sum(self.check_tree(banks, places, patterns, part, weights + (at,)) for at, part in enumerate(tree))

    def check(self, banks, places, patterns):
        paper = first_weights(banks, places, *patterns)
        wanted = None
        for weights in product(range(banks), repeat=places):
            if is_clear_by(Rule((banks,), weights, (0,)), patterns):
                wanted = weights
                break
        self.assertIs(bool(paper), wanted is not None)
        if wanted is None:
            self.assertIs(type(paper), Unweighted)
            self.assertGreaterEqual(self.check_tree(banks, places, patterns, paper.tree, ()), banks)
        else:
            self.assertTrue(type(paper) is Weighted and same(paper.weights, wanted))
            self.check_papers(Rule((banks,), wanted, (0,)), patterns, paper.papers)
        self.assertEqual(paper, first_weights(banks, places, *patterns))
        return paper

    def test_against_all_weights(self):
        rng, seen = rng_of(182), []
        for banks in (2, 3, 4):
            for places in (1, 2, 3, 4, 5):
                for _ in range(12 if places < 5 else 5):
                    seen.append(bool(self.check(banks, places, random_patterns(rng, rng.randint(2, banks + 1), 2))))
        self.assertGreater(min(seen.count(True), seen.count(False)), 30)

    def test_known_weights(self):
        self.assertEqual(self.check(4, 2, [Pattern.strided(4, 1)]).weights, (1, 2))
        self.assertIs(bool(self.check(2, 1, [Pattern(0, 2)])), False)
        self.assertEqual(self.check(3, 4, [Pattern(9)]), Weighted((0, 0, 0, 0), (Clear({}),)))
        self.assertEqual(self.check(4, 5, [Pattern.strided(4, 8)]).weights, (0, 0, 0, 1, 2))
        self.assertEqual(self.check(4, 3, [Pattern(0, 4)]).weights, (0, 0, 1))

    def test_later_patterns(self):
        self.check(2, 2, [Pattern(0), Pattern(5), Pattern(0, 1, 2)])
        self.check(3, 2, [Pattern(0), Pattern(0, 2 ** 90), Pattern(0, 1)])

    def test_many_offsets_in_a_short_time(self):
        rng, begin = rng_of(183), time.perf_counter()
        for pattern in (Pattern.strided(32, 1), Pattern.strided(32, 2 ** 60), Pattern.strided(4, 31 * 2 ** 80),
                        Pattern(*[rng.randrange(10 ** 30) for _ in range(32)])):
            self.assertIs(bool(first_weights(4, 5, pattern, pattern)), False)
        self.assertLess(time.perf_counter() - begin, 20)

    def test_errors_in_order(self):
        for value in without(lambda value: whole(value, 2, 4)) + [1, 5]:
            self.assertEqual(told(first_weights, value, 0, 0), (BadRule, {"part": "banks"}))
        for value in without(lambda value: whole(value, 1, 5)) + [6, 0]:
            self.assertEqual(told(first_weights, 4, value, 0), (BadRule, {"part": "places"}))
        self.assertEqual(told(first_weights, 4, 5), (BadTile, {"part": "patterns"}))
        for value in without(lambda value: isinstance(value, Pattern)):
            self.assertEqual(told(first_weights, 4, 5, value), (BadTile, {"part": 0}))
            self.assertEqual(told(first_weights, 2, 1, Pattern(0), Pattern(1), value, value), (BadTile, {"part": 2}))


class FewestTest(unittest.TestCase):
    def test_against_the_gaps(self):
        rng, seen = rng_of(184), set()
        for _ in range(400):
            patterns = random_patterns(rng, rng.choice((2, 4, 8, 16)), 3)
            gaps = [b - a for pattern in patterns for a in pattern for b in pattern if b > a]
            wanted = ([banks for banks in range(2, 33) if all(gap % banks for gap in gaps)] + [None])[0]
            seen.add(wanted)
            self.assertTrue(same(fewest_banks(*patterns), wanted))
        self.assertGreater(len(seen), 15)

    def test_known_banks(self):
        self.assertEqual(fewest_banks(Pattern(3)), 2)
        self.assertEqual(fewest_banks(Pattern.strided(32, 1)), 32)
        self.assertEqual(fewest_banks(Pattern.strided(32, 2)), None)
        self.assertEqual(fewest_banks(Pattern.strided(29, 2)), 29)
        self.assertEqual(fewest_banks(Pattern.strided(4, 6), Pattern(0, 10)), 7)

    def test_errors(self):
        self.assertEqual(told(fewest_banks), (BadTile, {"part": "patterns"}))
        for value in without(lambda value: isinstance(value, Pattern)):
            self.assertEqual(told(fewest_banks, value, None), (BadTile, {"part": 0}))
            self.assertEqual(told(fewest_banks, Pattern(0), value), (BadTile, {"part": 1}))


if __name__ == "__main__":
    unittest.main()
