"""The looker at the papers of patterns."""

import time
import unittest

from helping import ANY, banks_seen, random_rule, rng_of, told, whole, without
from lanebanks.distances import Meets, Never, distance
from lanebanks.errors import BadRule, BadTile
from lanebanks.look_distances import shows_distance
from lanebanks.look_tiles import shows_clear
from lanebanks.rules import Rule
from lanebanks.tiles import Clear, Jam, Pattern, clear


def clear_ones(rng, many):
    """Rules with patterns of a few offsets that are clear by them."""
    found = []
    while len(found) < many:
        rule = random_rule(rng, rng.choice([(3,), (4,), (2, 2), (7,), (2, 4)]), 4, 2)
        pattern = Pattern(*[rng.randrange(2 ** rng.randint(1, 40)) for _ in range(rng.randint(2, 4))])
        if clear(rule, pattern) and len(pattern) > 1:
            found.append((rule, pattern))
    return found


class RightTest(unittest.TestCase):
    def test_papers_of_clear(self):
        rng, seen = rng_of(130), []
        for _ in range(200):
            rule = random_rule(rng, None, 4, 3)
            pattern = Pattern(*[rng.randrange(2 ** rng.randint(1, 99)) for _ in range(rng.randint(1, 5))])
            paper = clear(rule, pattern)
            seen.append(bool(paper))
            self.assertIs(shows_clear(rule, pattern, paper), True)
            self.assertIs(shows_clear(value=paper, pattern=pattern, rule=rule), True)
        self.assertGreater(seen.count(True), 20)
        self.assertGreater(seen.count(False), 20)

    def test_further_keys_and_any_right_never(self):
        for rule, pattern in clear_ones(rng_of(131), 20):
            papers = clear(rule, pattern).papers
            more = dict(papers)
            more.update({0: None, -1: Meets(0), "x": 1, None: 2, (1, 2): 3, pattern.gaps()[-1] + 1: Never((), ())})
            self.assertIs(shows_clear(rule, pattern, Clear(more)), True)
            doubled = {gap: Never(never.levels, never.back * 2) for gap, never in papers.items()}
            self.assertIs(shows_clear(rule, pattern, Clear(doubled)), True)
        for value in (Clear({}), Clear({1: None})):
            self.assertIs(shows_clear(Rule.modulo(4), Pattern(3), value), True)

    def test_jams(self):
        rng, seen = rng_of(132), []
        for _ in range(500):
            rule = random_rule(rng, rng.choice([(2,), (3,), (2, 2)]), 3, 3)
            pattern = Pattern(*[rng.randrange(12) for _ in range(4)])
            start = rng.choice([rng.randrange(8), rng.randrange(2 ** 300)])
            one, other = [rng.choice(list(pattern.offsets) + [rng.randrange(12)]) for _ in range(2)]
            banks = banks_seen(rule, start, (one, other))
            wanted = one != other and one in pattern and other in pattern and banks[0] == banks[1]
            seen.append(wanted)
            self.assertIs(shows_clear(rule, pattern, Jam(start, one, other)), wanted)
            self.assertIs(shows_clear(rule, pattern, Jam(start, other, one)), wanted)
        self.assertGreater(seen.count(True), 50)
        rule = Rule((2,), (), (0,))
        self.assertIs(shows_clear(rule, Pattern(0, 1), Jam(3 ** 9000, 1, 0)), True)


class WrongTest(unittest.TestCase):
    def test_gaps_and_papers(self):
        for rule, pattern in clear_ones(rng_of(133), 30):
            papers = clear(rule, pattern).papers
            for gap in pattern.gaps():
                self.assertIs(shows_clear(rule, pattern, Clear({k: papers[k] for k in papers if k != gap})), False)
                for value in ANY + [Meets(0), Meets(1)]:
                    self.assertIs(shows_clear(rule, pattern, Clear({**papers, gap: value})), False)
                for other in pattern.gaps():
                    changed = {**papers, gap: papers[other]}
                    wanted = shows_distance(rule, gap, papers[other])
                    self.assertIs(shows_clear(rule, pattern, Clear(changed)), wanted)
                less = Never(papers[gap].levels, papers[gap].back[1:])
                self.assertIs(shows_clear(rule, pattern, Clear({**papers, gap: less})), False)

    def test_a_meets_is_no_never(self):
        rule, pattern = Rule.modulo(4), Pattern(0, 4)
        paper = distance(rule, 4)
        self.assertIs(shows_distance(rule, 4, paper), True)
        self.assertIs(shows_clear(rule, pattern, Clear({4: paper})), False)
        self.assertIs(shows_clear(rule, pattern, paper), False)

    def test_keys_that_are_no_integers(self):
        rule, pattern = Rule.modulo(4), Pattern(0, 1)
        never = distance(rule, 1)
        self.assertIs(shows_clear(rule, pattern, Clear({1: never})), True)
        for key in (True, "1", (1,), None):
            self.assertIs(shows_clear(rule, pattern, Clear({key: never})), False)

    def test_values_of_all_kinds(self):
        rule, pattern = Rule.modulo(2), Pattern(0, 1, 2)
        self.assertIs(shows_clear(rule, pattern, Jam(1, 0, 2)), True)
        for value in ANY:
            self.assertIs(shows_clear(Rule.modulo(4), pattern, value), False)
            self.assertIs(shows_clear(Rule.modulo(4), pattern, Clear(value)), False)
            self.assertIs(shows_clear(rule, pattern, Jam(value, 0, 2)), whole(value, 0, 10 ** 99))
            self.assertIs(shows_clear(rule, pattern, Jam(1, value, 2)), type(value) is int and value == 0)
            self.assertIs(shows_clear(rule, pattern, Jam(1, 0, value)), type(value) is int and value == 2)
        papers = clear(Rule.modulo(4), pattern).papers
        for value in (list(papers.items()), tuple(papers.items()), Clear(papers)):
            self.assertIs(shows_clear(Rule.modulo(4), pattern, Clear(value)), False)

    def test_many_gaps_in_a_short_time(self):
        rng, begin = rng_of(134), time.perf_counter()
        pattern = Pattern(*[at + 32 * rng.randrange(10 ** 28) for at in range(32)])
        paper = clear(Rule.modulo(32), pattern)
        self.assertGreater(len(paper.papers), 490)
        self.assertIs(shows_clear(Rule.modulo(32), pattern, paper), True)
        self.assertLess(time.perf_counter() - begin, 30)


class ErrorsTest(unittest.TestCase):
    def test_errors_in_order(self):
        for value in without(lambda value: isinstance(value, Rule)):
            self.assertEqual(told(shows_clear, value, None, Clear({})), (BadRule, {"part": "rule"}))
        for value in without(lambda value: isinstance(value, Pattern)):
            self.assertEqual(told(shows_clear, Rule.modulo(4), value, Clear({})), (BadTile, {"part": "pattern"}))


if __name__ == "__main__":
    unittest.main()
