"""The papers: their attributes, which of them are equal, and what they tell of themselves."""

import unittest

from helping import ANY
from lanebanks.compared import Freer, Less, Parted, Same, Split, Told
from lanebanks.distances import Meets, Never
from lanebanks.made import Padded, Unpadded, Unweighted, Weighted
from lanebanks.memory import Served
from lanebanks.seen import Found
from lanebanks.tiles import Clear, Jam
from lanebanks.units import Clash, Free
from lanebanks.verdicts import Verdict
from lanebanks.worst import Shared

YES = [
    (Meets, ["start"]), (Free, ["tables"]), (Clear, ["papers"]), (Told, ["names"]), (Same, ["names"]),
    (Freer, ["strides", "tables"]), (Padded, ["pad", "jams", "papers"]), (Weighted, ["weights", "papers"]),
]
NO = [
    (Never, ["levels", "back"]), (Clash, ["stride", "start", "one", "other"]), (Jam, ["start", "one", "other"]),
    (Split, ["first", "second"]), (Parted, ["first", "second"]), (Less, ["stride"]), (Unpadded, ["jams"]),
    (Unweighted, ["tree"]),
]
OTHERS = [
    (Shared, ["number", "start", "stands", "behind"]), (Found, ["rule", "log"]), (Served, ["loaded", "ticks"]),
]
ALL = YES + NO + OTHERS


class PapersTest(unittest.TestCase):
    def test_attributes(self):
        for paper, names in ALL:
            for at, name in enumerate(names):
                for value in ANY:
                    values = [value if at == other else other for other in range(len(names))]
                    for made in (paper(*values), paper(**dict(zip(names, values))),
                                 paper(**dict(reversed(list(zip(names, values)))))):
                        self.assertIs(getattr(made, name), value)
                        self.assertEqual(sorted(vars(made)), sorted(names))
                        self.assertTrue(all(getattr(made, names[k]) is values[k] for k in range(len(names))))

    def test_equality(self):
        for paper, names in ALL:
            for at in range(len(names)):
                for one in ANY:
                    for other in ANY:
                        left = paper(*[one if at == k else k for k in range(len(names))])
                        right = paper(*[other if at == k else k for k in range(len(names))])
                        self.assertIs(left == right, bool(one == other))
                        self.assertIs(left != right, not one == other)

    def test_kinds_of_values_do_not_count(self):
        for paper, names in ALL:
            self.assertIs(paper(*[1 for _ in names]) == paper(*[True for _ in names]), True)
            self.assertIs(paper(*[(1,) for _ in names]) == paper(*[[1] for _ in names]), False)

    def test_equal_to_nothing_else(self):
        for paper, names in ALL:
            made = paper(*[0 for _ in names])
            for other, others in ALL:
                if other is not paper:
                    self.assertIs(made == other(*[0 for _ in others]), False)
            for value in ANY + [tuple(0 for _ in names), [0 for _ in names], 0]:
                if not isinstance(value, paper):
                    self.assertIs(made == value, False)
                    self.assertIs(value == made, False)

    def test_yes_and_no(self):
        for papers, wanted in ((YES, True), (NO, False)):
            for paper, names in papers:
                self.assertEqual(paper.__bases__, (Verdict,))
                for value in (0, None, (), 1, "x"):
                    self.assertIs(bool(paper(*[value for _ in names])), wanted)
        for paper, names in OTHERS:
            self.assertFalse(issubclass(paper, Verdict))
            for value in (0, None, (), 1, "x"):
                self.assertIs(bool(paper(*[value for _ in names])), True)


if __name__ == "__main__":
    unittest.main()
