"""The looker at the papers of rules that are made for patterns."""

import time
import unittest

from helping import ANY, banks_seen, changed, rng_of, told, whole, without
from lanebanks.errors import BadRule, BadTile, TooMany
from lanebanks.look_made import shows_padding, shows_weights
from lanebanks.look_tiles import shows_clear
from lanebanks.made import Padded, Unpadded, Unweighted, Weighted, first_padding, first_weights
from lanebanks.rules import Rule
from lanebanks.tiles import Clear, Jam, Pattern, clear
from test_made import random_patterns

FRESH = [(), (0,), 0, 1, -1, True, None, "", Jam(0, 0, 1), Jam(0, 1, 0), Jam(0, 0, 0), Jam(0, 0, 2), Jam(2, 0, 4),
         (0, Jam(0, 0, 2)), (1, Jam(0, 0, 2)), (False, Jam(0, 0, 2)), [0, Jam(0, 0, 2)], Clear({}), (Clear({}),), ((), ())]


def is_jam(rule, patterns, pair, most=None):
    """What the document says of a pair (at, jam): two unlike addresses of a pattern, in one bank, below a bound."""
    if type(pair) is not tuple or len(pair) != 2 or not whole(pair[0], 0, len(patterns) - 1) or type(pair[1]) is not Jam:
        return False
    start, offsets = pair[1].start, [pair[1].one, pair[1].other]
    if not (type(start) is int and start >= 0 and all(type(offset) is int for offset in offsets)):
        return False
    if not set(offsets) <= set(patterns[pair[0]].offsets) or offsets[0] == offsets[1]:
        return False
    banks = banks_seen(rule, start, offsets)
    return banks[0] == banks[1] and (most is None or start + max(offsets) < most)


def are_clears(rule, patterns, papers):
    """Whether papers are a tuple of a right Clear for each pattern."""
    if type(papers) is not tuple or len(papers) != len(patterns):
        return False
    return all(type(paper) is Clear and shows_clear(rule, pattern, paper) for pattern, paper in zip(patterns, papers))


def are_jams(banks, every, patterns, many, jams):
    """Whether jams are a tuple of a right pair for each of the first pads."""
    if type(jams) is not tuple or len(jams) != many:
        return False
    return all(is_jam(Rule.padded(banks, every, pad), patterns, jams[pad]) for pad in range(many))


def plain_padding(banks, every, patterns, value):
    """What the document says of a right paper of a padding."""
    if type(value) is Unpadded:
        return are_jams(banks, every, patterns, banks, value.jams)
    if type(value) is not Padded or not whole(value.pad, 0, banks - 1):
        return False
    return (are_jams(banks, every, patterns, value.pad, value.jams)
            and are_clears(Rule.padded(banks, every, value.pad), patterns, value.papers))


def is_tree(banks, places, patterns, tree, weights=()):
    """What the document says of a tree for some first weights."""
    left = places - len(weights)
    if is_jam(Rule((banks,), weights, (0,)), patterns, tree, None if left == 0 else 2 ** len(weights)):
        return True
    if type(tree) is not tuple or len(tree) != banks or left == 0:
        return False
    return all(is_tree(banks, places, patterns, part, weights + (at,)) for at, part in enumerate(tree))


def plain_weights(banks, places, patterns, value):
    """What the document says of a right paper of weights."""
    if type(value) is Unweighted:
        return is_tree(banks, places, patterns, value.tree)
    if type(value) is not Weighted or type(value.weights) is not tuple or len(value.weights) != places:
        return False
    if not all(whole(weight, 0, banks - 1) for weight in value.weights):
        return False
    return are_clears(Rule((banks,), value.weights, (0,)), patterns, value.papers)


def turned(tree):
    """A tree, or jams, with the offsets of each Jam turned about."""
    if isinstance(tree, Jam):
        return Jam(tree.start, tree.other, tree.one)
    return tuple(turned(part) for part in tree) if isinstance(tree, tuple) else tree


def jam_changed(rng, tree):
    """A tree, or jams, with a Jam somewhere changed in one part."""
    if isinstance(tree, Jam):
        parts = [tree.start, tree.one, tree.other]
        parts[rng.randrange(3)] = rng.choice((0, 1, 2, 3, 2 ** 70, -1, True, None, "0", 1 + parts[0]))
        return Jam(*parts)
    if not isinstance(tree, tuple) or not tree:
        return tree
    at = rng.choice([at for at, part in enumerate(tree) if isinstance(part, (tuple, Jam))] or [0])
    return tree[:at] + (jam_changed(rng, tree[at]),) + tree[at + 1:]


class PaddingTest(unittest.TestCase):
    def cases(self, rng, many):
        """Banks, digits behind which they are padded, patterns, and the paper."""
        for _ in range(many):
            banks, every = rng.choice((2, 3, 4, 6, 8, 12)), rng.randint(1, 4)
            patterns = random_patterns(rng, 3, 3)
            if rng.random() < 0.5:
                patterns.append(Pattern.strided(2, 2 ** every * rng.choice((1, banks))))
            yield banks, every, patterns, first_padding(banks, every, *patterns)

    def test_right_papers(self):
        seen = []
        for banks, every, patterns, paper in self.cases(rng_of(190), 120):
            seen.append(bool(paper))
            self.assertIs(shows_padding(banks, every, patterns, paper), True)
            self.assertIs(shows_padding(value=paper, patterns=tuple(patterns), every=every, banks=banks), True)
            other = Padded(paper.pad, turned(paper.jams), paper.papers) if paper else Unpadded(turned(paper.jams))
            self.assertIs(shows_padding(banks, every, patterns, other), True)
        self.assertGreater(min(seen.count(True), seen.count(False)), 20)

    def test_changed_papers(self):
        rng, seen = rng_of(191), []
        for banks, every, patterns, paper in self.cases(rng, 120):
            papers = getattr(paper, "papers", (Clear({}),) * len(patterns))
            pad = getattr(paper, "pad", banks)
            jams = [paper.jams, paper.jams[:-1], paper.jams + paper.jams[-1:], list(paper.jams), jam_changed(rng, paper.jams),
                    changed(paper.jams, rng, FRESH), changed(paper.jams, rng, FRESH), turned(paper.jams)]
            values = [Unpadded(some) for some in jams] + [Padded(pad, some, papers) for some in jams]
            values += [Padded(other, paper.jams, papers) for other in (pad - 1, pad + 1, 0, banks, True, None, "1", pad - banks)]
            values += [Padded(-1, paper.jams[:banks - 1], papers), Padded(-banks, (), papers)]
            values += [Padded(pad, paper.jams, other) for other in (
                papers[:-1], papers + papers[-1:], list(papers), papers[::-1], changed(papers, rng, FRESH),
                tuple(clear(Rule.modulo(banks), pattern) for pattern in patterns))]
            values += [Padded(0, (), tuple(clear(Rule.padded(banks, every, 0), pattern) for pattern in patterns))]
            for value in values:
                wanted = plain_padding(banks, every, patterns, value)
                seen.append(wanted)
                self.assertIs(shows_padding(banks, every, patterns, value), wanted)
        self.assertGreater(seen.count(True), 150)
        self.assertGreater(seen.count(False), 1000)

    def test_other_pads_that_do(self):
        # Each pad by which a pattern is clear has a right paper only if all lesser ones have a Jam.
        pattern, jam = Pattern(0, 4), (0, Jam(0, 0, 4))
        for pad in (1, 2, 3):
            papers = (clear(Rule.padded(4, 2, pad), pattern),)
            self.assertTrue(papers[0])
            for jams in ((), (jam,), (jam,) * 2, (jam,) * 3):
                self.assertIs(shows_padding(4, 2, [pattern], Padded(pad, jams, papers)), (pad, jams) == (1, (jam,)))

    def test_pads_below_0(self):
        # Counted from the end -1 would be the pad 1, with all jams that it needs.
        pattern = Pattern(0, 2)
        jams, papers = ((0, Jam(0, 0, 2)),), (clear(Rule.padded(2, 1, 1), pattern),)
        self.assertIs(shows_padding(2, 1, [pattern], Padded(1, jams, papers)), True)
        self.assertIs(shows_padding(2, 1, [pattern], Padded(-1, jams, papers)), False)

    def test_jams_as_papers(self):
        jam = Jam(0, 0, 4)
        self.assertIs(shows_padding(4, 2, [Pattern(0, 4)], Padded(0, (), (jam,))), False)
        self.assertIs(shows_padding(4, 2, [Pattern(0, 4)], Padded(1, (jam,), (clear(Rule.padded(4, 2, 1), Pattern(0, 4)),))),
                      False)

    def test_values_of_all_kinds(self):
        pattern = Pattern(0, 4)
        papers = (clear(Rule.padded(4, 2, 1), pattern),)
        jams = ((0, Jam(0, 0, 4)),)
        self.assertIs(shows_padding(4, 2, [pattern], Padded(1, jams, papers)), True)
        for value in ANY:
            for paper in (value, Padded(1, value, papers), Padded(1, (value,), papers), Padded(1, jams, value),
                          Padded(1, jams, (value,)), Unpadded(value), Unpadded((value,) * 4), Unpadded(jams + (value,) * 3),
                          Padded(1, ((0, value),), papers), Padded(1, ((0, Jam(0, value, 4)),), papers) if value != 0 else 0,
                          Padded(1, ((value, jams[0][1]),), papers) if value != 0 or value is False else 0,
                          Padded(value, jams, papers) if value != 1 or value is True else 0,
                          Weighted(value, papers), Unweighted(value)):
                wanted = plain_padding(4, 2, [pattern], paper)
                self.assertIs(shows_padding(4, 2, [pattern], paper), wanted)
                self.assertIs(wanted, False)

    def test_errors_in_order(self):
        for value in without(lambda value: whole(value, 2, 32)) + [1]:
            self.assertEqual(told(shows_padding, value, 0, 0, 0), (BadRule, {"part": "banks"}))
        for value in without(lambda value: whole(value, 1, 12)) + [13]:
            self.assertEqual(told(shows_padding, 29, value, 0, 0), (BadRule, {"part": "every"}))
        for value in without(lambda value: isinstance(value, (list, tuple)) and len(value) > 0):
            self.assertEqual(told(shows_padding, 29, 12, value, 0), (BadTile, {"part": "patterns"}))
        for value in without(lambda value: isinstance(value, Pattern)):
            self.assertEqual(told(shows_padding, 29, 12, [value, None], 0), (BadTile, {"part": 0}))
            self.assertEqual(told(shows_padding, 4, 2, (Pattern(1), value), 0), (BadTile, {"part": 1}))
        error = (TooMany, {"what": "places", "most": 24})
        self.assertEqual(told(shows_padding, 29, 12, [Pattern(1)], 0), error)
        # By 25 banks the pad 0 would do.
        self.assertEqual(told(Rule.padded, 25, 12, 0), "none")
        self.assertEqual(told(shows_padding, 25, 12, [Pattern(1)], Padded(0, (), (Clear({}),))), error)


class WeightsTest(unittest.TestCase):
    def cases(self, rng, many):
        """Banks, places, patterns, and the paper."""
        for _ in range(many):
            banks, places = rng.randint(2, 4), rng.randint(1, 3)
            patterns = random_patterns(rng, banks + 1, 2)
            yield banks, places, patterns, first_weights(banks, places, *patterns)

    def test_right_papers(self):
        seen = []
        for banks, places, patterns, paper in self.cases(rng_of(192), 150):
            seen.append(bool(paper))
            self.assertIs(shows_weights(banks, places, patterns, paper), True)
            self.assertIs(shows_weights(value=paper, patterns=tuple(patterns), places=places, banks=banks), True)
            if not paper:
                self.assertIs(shows_weights(banks, places, patterns, Unweighted(turned(paper.tree))), True)
        self.assertGreater(min(seen.count(True), seen.count(False)), 25)

    def test_changed_trees(self):
        rng, seen = rng_of(193), []
        for banks, places, patterns, paper in self.cases(rng, 200):
            tree = paper.tree if not paper else (((0, Jam(0, 0, 1)),) * banks)
            for value in (tree[:-1], tree + tree[-1:], list(tree), tree[::-1], jam_changed(rng, tree), jam_changed(rng, tree),
                          changed(tree, rng, FRESH), changed(tree, rng, FRESH), tree[0], (tree,) * banks):
                wanted = is_tree(banks, places, patterns, value)
                seen.append(wanted)
                self.assertIs(shows_weights(banks, places, patterns, Unweighted(value)), wanted)
        self.assertGreater(min(seen.count(True), seen.count(False)), 50)

    def test_branches_fewer_and_more(self):
        pattern, pair = Pattern(0, 2), (0, Jam(0, 0, 2))
        whole_tree = (pair, pair)
        self.assertIs(shows_weights(2, 1, [pattern], Unweighted(whole_tree)), True)
        # With no weights told no address but 0 is told, with one two addresses, with two four.
        self.assertIs(shows_weights(2, 1, [pattern], Unweighted(pair)), False)
        self.assertIs(shows_weights(2, 2, [pattern], Unweighted(whole_tree)), False)
        self.assertIs(shows_weights(2, 1, [pattern], Unweighted((whole_tree, pair))), False)
        for tree in ((pair,), (pair,) * 3, ()):
            self.assertIs(shows_weights(2, 1, [pattern], Unweighted(tree)), False)
        many = Pattern(0, 1, 2)
        one, other, last = (0, Jam(0, 0, 1)), (0, Jam(0, 0, 2)), (0, Jam(0, 1, 2))
        self.assertIs(shows_weights(2, 2, [many], Unweighted((one, (other, last)))), True)
        # The whole tree of all weights told, though a lesser one would do.
        self.assertIs(shows_weights(2, 2, [many], Unweighted(((one, one), (other, (0, Jam(4, 1, 2)))))), True)

    def test_addresses_beyond_the_weights(self):
        # With one weight told no address but 0 and 1 is told, whichever offset of a Jam stands first.
        pattern = Pattern(0, 1, 2)
        for jam in (Jam(0, 0, 2), Jam(0, 2, 0), Jam(1, 0, 1), Jam(1, 1, 0), Jam(0, 0, 1), Jam(0, 1, 0)):
            for many in (1, 2):
                tree = ((0, jam), (0, jam)) if many == 1 else (((0, jam), (0, jam)), ((0, jam), (0, jam)))
                for places in (1, 2, 3):
                    self.assertIs(shows_weights(2, places, [pattern], Unweighted(tree)), is_tree(2, places, [pattern], tree))
        for jam in (Jam(0, 0, 2), Jam(0, 2, 0)):
            self.assertIs(shows_weights(2, 2, [Pattern(0, 2)], Unweighted(((0, jam), (0, jam)))), False)
            self.assertIs(shows_weights(2, 1, [Pattern(0, 2)], Unweighted(((0, jam), (0, jam)))), True)

    def test_branches_behind_all_weights(self):
        # By one weight more each pair would be right, but all weights are told already.
        pair = (0, Jam(0, 0, 1))
        tree = ((pair, pair), (0, Jam(0, 0, 2)))
        self.assertIs(shows_weights(2, 1, [Pattern(0, 1, 2)], Unweighted((pair, tree[1]))), True)
        self.assertIs(shows_weights(2, 1, [Pattern(0, 1, 2)], Unweighted(tree)), False)

    def test_weights_changed(self):
        rng, seen = rng_of(194), []
        for banks, places, patterns, paper in self.cases(rng, 150):
            weights = getattr(paper, "weights", (0,) * places)
            papers = tuple(clear(Rule((banks,), weights, (0,)), pattern) for pattern in patterns)
            at = rng.randrange(places)
            values = [Weighted(weights[:at] + (fresh,) + weights[at + 1:], papers) for fresh in
                      (-1, banks, 0, 1, True, False, None, "0", (0,))]
            others = (weights, list(weights), weights[:-1], weights + (0,), weights[0], ())
            values += [Weighted(some, papers) for some in others]
            values += [Weighted(weights, some) for some in (
                list(papers), papers[:-1], papers + papers[-1:], papers[::-1], changed(papers, rng, FRESH))]
            other = tuple(rng.randrange(banks) for _ in range(places))
            rule = Rule((banks,), other, (0,))
            # No looker asks for the least weights.
            values += [Weighted(other, tuple(clear(rule, pattern) for pattern in patterns))]
            for value in values:
                wanted = plain_weights(banks, places, patterns, value)
                seen.append(wanted)
                self.assertIs(shows_weights(banks, places, patterns, value), wanted)
        self.assertGreater(min(seen.count(True), seen.count(False)), 150)

    def test_greater_weights_do(self):
        rule, pattern = Rule((4,), (3, 2), (0,)), Pattern.strided(4, 1)
        self.assertIs(shows_weights(4, 2, [pattern], Weighted((3, 2), (clear(rule, pattern),))), True)

    def test_values_of_all_kinds(self):
        pattern = Pattern(0, 2)
        papers = (clear(Rule((2,), (0, 1), (0,)), pattern),)
        self.assertIs(shows_weights(2, 2, [pattern], Weighted((0, 1), papers)), True)
        self.assertIs(shows_weights(2, 2, [Pattern(0)], Weighted((0, 1), (Clear({}),))), True)
        leaf = (0, Jam(0, 0, 2))
        for value in ANY:
            for paper in (value, Weighted(value, papers), Weighted((0, 1), value), Weighted((0, 1), (value,)),
                          Unweighted(value), Padded(0, value, papers), Unpadded(value)):
                self.assertIs(shows_weights(2, 2, [pattern], paper), False)
            self.assertIs(shows_weights(2, 1, [pattern], Unweighted((leaf, value))), False)
            self.assertIs(shows_weights(2, 1, [pattern], Unweighted((leaf, (0, value)))), False)
            self.assertIs(shows_weights(2, 1, [pattern], Unweighted((leaf, (value, leaf[1])))), whole(value, 0, 0))

    def test_great_trees_in_a_short_time(self):
        begin = time.perf_counter()
        for pattern in (Pattern.strided(32, 31 * 2 ** 70), Pattern(*[5 ** at for at in range(32)])):
            paper = first_weights(4, 5, pattern)
            self.assertIs(shows_weights(4, 5, [pattern] * 20, paper), True)
        self.assertLess(time.perf_counter() - begin, 20)

    def test_errors_in_order(self):
        for value in without(lambda value: whole(value, 2, 4)) + [1, 5]:
            self.assertEqual(told(shows_weights, value, 0, 0, 0), (BadRule, {"part": "banks"}))
        for value in without(lambda value: whole(value, 1, 5)) + [6]:
            self.assertEqual(told(shows_weights, 4, value, 0, 0), (BadRule, {"part": "places"}))
        for value in without(lambda value: isinstance(value, (list, tuple)) and len(value) > 0):
            self.assertEqual(told(shows_weights, 4, 5, value, 0), (BadTile, {"part": "patterns"}))
        for value in without(lambda value: isinstance(value, Pattern)):
            self.assertEqual(told(shows_weights, 4, 5, [value, None], 0), (BadTile, {"part": 0}))
            self.assertEqual(told(shows_weights, 4, 5, (Pattern(1), value), 0), (BadTile, {"part": 1}))


if __name__ == "__main__":
    unittest.main()
