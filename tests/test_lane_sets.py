"""The two ways to a set of strides come to the same."""

import unittest
from unittest import mock

from helping import random_rule, random_set, rng_of
from lanebanks import lane_sets
from lanebanks.lane_sets import meeting_table
from lanebanks.rules import Rule
from lanebanks.sets import NumberSet


def tables(rows):
    """The normal forms for some rules, lanes and starts."""
    return [meeting_table(*row) for row in rows]


class WaysTest(unittest.TestCase):
    def test_both_ways(self):
        rng = rng_of(160)
        rows = [(random_rule(rng, rng.choice([(2,), (3,), (2, 2)]), 3, 2), one, other, random_set(rng, 3))
                for one, other in ((0, 1), (0, 3), (1, 2), (2, 5)) for _ in range(15)]
        rows += [(Rule.modulo(banks), 0, 2, NumberSet.every()) for banks in (2, 3, 4, 12)]
        rows += [(Rule.padded(4, 2, 1), 1, 3, NumberSet.of(5, 9)), (Rule.xor(2), 0, 1, NumberSet.none())]
        wanted = tables(rows)
        for nexts, marks in wanted:
            made = NumberSet(nexts, marks)
            self.assertEqual((made.nexts, made.marks), (nexts, marks))
        for room in (1, 2, 7, 30):
            with mock.patch.object(lane_sets, "FIRST_ROOM", room):
                self.assertEqual(tables(rows), wanted)
        for way in ("table_by_endings", "table_by_rows"):
            with mock.patch.object(lane_sets, way, lambda rows, room: None):
                self.assertEqual(tables(rows), wanted)

    def check_ways(self, rule, pair, starts, by_rows):
        """That one way alone comes to the set in little room."""
        rows = lane_sets.StrideRows(Rule.read(rule), *pair, starts.nexts, starts.marks)
        self.assertIs(lane_sets.table_by_rows(rows, 3000) is None, not by_rows)
        self.assertIs(lane_sets.table_by_endings(rows, 3000) is None, by_rows)

    def test_each_way_alone_can_be_long(self):
        starts = NumberSet.read("1 1 + / 2 3 + / 0 0 + / 2 4 + / 5 6 - / 6 0 - / 4 5 -")
        self.check_ways("moduli 4 ahead 2 1 round 1 2 0", (2, 3), starts, False)
        self.check_ways("moduli 16 ahead 2 round 12 3 7 6 6 3", (13, 14), NumberSet.of(3), True)


if __name__ == "__main__":
    unittest.main()
