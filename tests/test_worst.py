"""How many addresses share a bank, and the looker at the papers of that."""

import inspect
import time
import unittest

from helping import ANY, banks_seen, changed, cut_rule, plain_row, random_rule, rng_of, same, told, whole, without
from lanebanks.errors import BadNumber, BadRule, BadTile, TooMany
from lanebanks.look_worst import shows_shared
from lanebanks.rules import Rule
from lanebanks.tiles import Pattern, clear
from lanebanks.worst import Shared, shared, worst

SMALL = [(2,), (3,), (4,), (2, 2)]
FRESH = [(), 0, 1, None, "", (0,), (0, 0), (1, 0), (0, 1), (1, 1), (0, 2), (0, 9), (True, 0), (0, "0"), [0, 0],
         ((0, 0), (0, 0)), ((0, 0), (0, 1)), ((1, 1), (0, 0)), ((0, 1), (1, 1)), (((0, 0), (0, 0)),), ((0, 0),),
         ((0, 0), (0, 0), (0, 0)), ([0, 0], (0, 0)), ((0, 0), (0, -1)), ((0, 2), (0, 0)), ((False, 0), (0, 0))]


def greatest(banks):
    """How many of these are equal at most."""
    return max(banks.count(bank) for bank in banks)


def plain_stand(rule, pattern, places, start):
    """The stand of a start behind some places, as the document tells it."""
    rows = [plain_row(rule, (0, 1), places, start, offset) for offset in pattern]
    return tuple(row[1] for row in rows), tuple(row[2] for row in rows)


def singles(rule, pattern):
    """The number T."""
    return max(pattern.offsets[-1].bit_length(), len(rule.ahead))


def ends_of(rule, pattern, place, stand):
    """The stands to which the digits 0 and 1 of a start lead."""
    weight, ends = rule.weight(place), []
    for digit in (0, 1):
        carries, banks = [], []
        for offset, carry, bank in zip(pattern, *stand):
            total = (offset >> place & 1) + digit + carry
            carries.append(total // 2)
            banks.append([bank, rule.added(bank, weight), rule.less(bank, weight)][total % 2 - digit])
        ends.append((tuple(carries), tuple(banks)))
    return ends


def plain_stands(rule, pattern):
    """The sets of the stands behind each place, and of those behind T or more places for each place of the round."""
    many = singles(rule, pattern)
    first = ((0,) * len(pattern), (0,) * len(pattern))
    levels = [{first}]
    for place in range(many):
        levels.append({end for stand in levels[-1] for end in ends_of(rule, pattern, place, stand)})
    behind = [set() for _ in rule.turn]
    waiting = [(many, stand) for stand in levels[-1]]
    while waiting:
        place, stand = waiting.pop()
        at = rule.class_of(place) - len(rule.ahead)
        if stand not in behind[at]:
            behind[at].add(stand)
            waiting.extend((place + 1, end) for end in ends_of(rule, pattern, place, stand))
    return levels[:-1], behind


def is_stand(value, many, banks):
    """Whether a value has the form of a stand."""
    return type(value) is tuple and len(value) == 2 and all(
        type(row) is tuple and len(row) == many and all(whole(part, 0, most) for part in row)
        for row, most in zip(value, (1, banks - 1)))


def plain_shows(rule, pattern, value):
    """What the document says of a right paper, word by word."""
    many = singles(rule, pattern)
    if not isinstance(value, Shared) or type(value.number) is not int or not whole(value.start, 0, 10 ** 9999):
        return False
    if greatest(banks_seen(rule, value.start, pattern)) != value.number:
        return False
    for rows, wanted in ((value.stands, many), (value.behind, len(rule.turn))):
        if type(rows) is not tuple or len(rows) != wanted or any(type(row) is not tuple for row in rows):
            return False
        if not all(is_stand(stand, len(pattern), rule.banks) for row in rows for stand in row):
            return False
    held = [set(row) for row in value.stands + value.behind]
    if ((0,) * len(pattern), (0,) * len(pattern)) not in held[0]:
        return False
    for place in range(many + 2 * len(rule.turn)):
        hall, behind = [at if at < many else many + rule.class_of(at) - len(rule.ahead) for at in (place, place + 1)]
        for stand in held[hall]:
            if not set(ends_of(rule, pattern, place, stand)) <= held[behind]:
                return False
    return all(any(carries) or greatest(banks) <= value.number for row in value.behind for carries, banks in row)


class SharedTest(unittest.TestCase):
    def check(self, rule, pattern):
        """That a paper tells just the stands that come, each once, and a start with the number."""
        paper = shared(rule, pattern)
        self.assertTrue(isinstance(paper, Shared) and type(paper.number) is int and whole(paper.start, 0, 10 ** 9999))
        levels, behind = plain_stands(rule, pattern)
        for rows, wanted in ((paper.stands, levels), (paper.behind, behind)):
            self.assertTrue(type(rows) is tuple and len(rows) == len(wanted))
            for row, stands in zip(rows, wanted):
                self.assertTrue(type(row) is tuple and len(row) == len(stands) and set(row) == stands)
                self.assertTrue(all(is_stand(stand, len(pattern), rule.banks) for stand in row))
        self.assertEqual(greatest(banks_seen(rule, paper.start, pattern)), paper.number)
        self.assertIs(shows_shared(rule, pattern, paper), True)
        self.assertIs(bool(clear(rule, pattern)), paper.number == 1)
        return paper.number

    def test_rules_that_are_cut(self):
        rng, seen = rng_of(140), set()
        for _ in range(150):
            rule, many = cut_rule(rng, None, 5)
            pattern = Pattern(*[rng.randrange(2 ** rng.randint(1, 12)) for _ in range(rng.randint(1, 6))])
            wanted = max(greatest(banks_seen(rule, start, pattern)) for start in range(many))
            self.assertEqual(self.check(rule, pattern), wanted)
            seen.add(wanted)
        self.assertTrue({1, 2, 3, 4} <= seen)

    def test_other_rules(self):
        rng = rng_of(141)
        for _ in range(100):
            rule = random_rule(rng, rng.choice(SMALL), 3, 3)
            pattern = Pattern(*[rng.randrange(2 ** rng.randint(1, 6)) for _ in range(rng.randint(1, 4))])
            number = self.check(rule, pattern)
            self.assertGreaterEqual(number, max(greatest(banks_seen(rule, start, pattern)) for start in range(150)))

    def test_stands_are_what_starts_leave_behind(self):
        rng = rng_of(142)
        rule, pattern = Rule((2, 2), (1, 2, 3, 1), (2, 1, 3)), Pattern(0, 3, 5)
        paper = shared(rule, pattern)
        self.assertEqual(len(paper.stands), 4)
        for _ in range(300):
            places, start = rng.randint(0, 14), rng.randrange(2 ** 14)
            hall = paper.stands[places] if places < 4 else paper.behind[(places - 4) % 3]
            self.assertIn(plain_stand(rule, pattern, places, start), hall)
        for places in range(4):
            wanted = {plain_stand(rule, pattern, places, start) for start in range(2 ** places)}
            self.assertEqual(set(paper.stands[places]), wanted)

    def test_no_places(self):
        for rule in (Rule((2,), (), (1,)), Rule((4,), (), (1, 2, 3)), Rule((3,), (), (0,))):
            paper = shared(rule, Pattern(0))
            stand = ((0,), (0,))
            self.assertEqual((paper.number, paper.stands, paper.behind), (1, (), ((stand,),) * len(rule.turn)))
            self.assertEqual(self.check(rule, Pattern(0)), 1)

    def test_one_offset_and_great_ones(self):
        for offset in (1, 5, 10 ** 30):
            for rule in (Rule.modulo(4), Rule.xor(1), Rule.modulo(7)):
                self.assertEqual(self.check(rule, Pattern(offset)), 1)
        self.assertEqual(self.check(Rule.modulo(31), Pattern(0, 31 * 10 ** 28, 62 * 10 ** 28, 10 ** 29 + 1)), 3)

    def test_modulo(self):
        for banks in (2, 3, 5, 8, 31):
            for offsets in ((0, 1, 2, 3), (0, banks, 2 * banks), (1, banks, banks + 1, 3 * banks + 1)):
                rests = [offset % banks for offset in offsets]
                self.assertEqual(shared(Rule.modulo(banks), Pattern(*offsets)).number, greatest(rests))

    def test_worst(self):
        rng = rng_of(143)
        for _ in range(60):
            rule, lanes, stride = random_rule(rng, rng.choice(SMALL), 3, 2), rng.randint(1, 5), rng.randrange(12)
            wanted = shared(rule, Pattern.strided(lanes, stride))
            self.assertEqual(worst(rule, lanes, stride), wanted)
            self.assertEqual(worst(limit=20000, stride=stride, lanes=lanes, rule=rule), wanted)
        self.assertEqual(worst(Rule.modulo(4), 32, 0).number, 1)
        self.assertEqual(worst(Rule.modulo(4), 1, 10 ** 28).number, 1)
        self.assertEqual(worst(Rule.modulo(4), 32, 10 ** 28).number, 32)
        self.assertEqual(worst(Rule.modulo(32), 32, 10 ** 28 - 1).number, 1)

    def test_limits(self):
        rng = rng_of(144)
        for _ in range(40):
            rule = random_rule(rng, rng.choice(SMALL), 3, 3)
            pattern = Pattern(*[rng.randrange(16) for _ in range(3)])
            paper = shared(rule, pattern)
            many = sum(len(row) for row in paper.stands + paper.behind)
            self.assertEqual(shared(rule, pattern, many), paper)
            self.assertEqual(shared(limit=20000, pattern=pattern, rule=rule), paper)
            for limit in {1, many - 1} - {0} if many > 1 else ():
                error = (TooMany, {"what": "stands", "most": limit})
                self.assertEqual(told(shared, rule, pattern, limit), error)
        for work in (shared, worst):
            self.assertEqual(inspect.signature(work).parameters["limit"].default, 5000)
        rule = Rule((2,) * 5, [1, 2, 4, 8, 16, 3, 6, 12], [24, 17, 9])
        for values in ((), (5000,)):
            error = (TooMany, {"what": "stands", "most": 5000})
            self.assertEqual(told(worst, rule, 8, 77, *values), error)

    def test_errors_in_order(self):
        rule, pattern = Rule.modulo(4), Pattern(0, 1)
        for value in without(lambda value: isinstance(value, Rule)):
            self.assertEqual(told(shared, value, None, 0), (BadRule, {"part": "rule"}))
            self.assertEqual(told(worst, value, 0, -1, 0), (BadRule, {"part": "rule"}))
        for value in without(lambda value: isinstance(value, Pattern)):
            self.assertEqual(told(shared, rule, value, 0), (BadTile, {"part": "pattern"}))
        for value in without(lambda value: whole(value, 1, 32)) + [0, 33]:
            self.assertEqual(told(worst, rule, value, -1, 0), (BadTile, {"part": "lanes"}))
        for value in without(lambda value: whole(value, 0, 10 ** 28)) + [10 ** 28 + 1]:
            self.assertEqual(told(worst, rule, 3, value, 0), (BadTile, {"part": "stride"}))
        for value in without(lambda value: whole(value, 1, 20000)) + [20001, 0, -1]:
            self.assertTrue(same(told(shared, rule, pattern, value), (BadNumber, {"value": value})))
            self.assertTrue(same(told(worst, rule, 3, 1, value), (BadNumber, {"value": value})))


class LookTest(unittest.TestCase):
    def test_changed_papers(self):
        rng, seen = rng_of(145), []
        for _ in range(250):
            rule = random_rule(rng, rng.choice(SMALL), 2, 2)
            pattern = Pattern(*[rng.randrange(6) for _ in range(2)])
            paper = shared(rule, pattern)
            for _ in range(12):
                parts = [paper.number, paper.start, paper.stands, paper.behind]
                for _ in range(rng.randint(1, 2)):
                    at = rng.randrange(4)
                    parts[at] = changed(parts[at], rng, FRESH) if at > 1 else rng.choice([parts[at], rng.randrange(9)])
                wanted = plain_shows(rule, pattern, Shared(*parts))
                seen.append(wanted)
                self.assertIs(shows_shared(rule, pattern, Shared(*parts)), wanted, (str(rule), pattern.offsets, parts))
        self.assertGreater(seen.count(True), 300)
        self.assertGreater(seen.count(False), 1000)

    def test_each_stand_is_needed(self):
        rng = rng_of(146)
        for _ in range(40):
            rule = random_rule(rng, rng.choice(SMALL), 3, 2)
            pattern = Pattern(*[rng.randrange(9) for _ in range(3)])
            paper = shared(rule, pattern)
            for name in ("stands", "behind"):
                rows = getattr(paper, name)
                for at, row in enumerate(rows):
                    for k in range(len(row)):
                        less = rows[:at] + (row[:k] + row[k + 1:],) + rows[at + 1:]
                        value = Shared(paper.number, paper.start, paper.stands, paper.behind)
                        setattr(value, name, less)
                        self.assertIs(shows_shared(rule, pattern, value), False)
                    for rows_changed in (rows[:at] + rows[at + 1:], rows + (row,)):
                        value = Shared(paper.number, paper.start, paper.stands, paper.behind)
                        setattr(value, name, rows_changed)
                        self.assertIs(shows_shared(rule, pattern, value), False)

    def test_any_order_more_stands_and_doubled(self):
        rng = rng_of(147)
        for _ in range(60):
            rule = random_rule(rng, rng.choice(SMALL), 3, 2)
            pattern = Pattern(*[rng.randrange(9) for _ in range(3)])
            paper = shared(rule, pattern)
            stands = tuple(tuple(rng.sample(row, len(row))) for row in paper.stands)
            behind = tuple(tuple(rng.sample(row * 2, 2 * len(row))) for row in paper.behind)
            value = Shared(paper.number, paper.start, stands, behind)
            self.assertIs(shows_shared(rule, pattern, value), True)
        # Stands with other banks come from no start, but they lead to stands that are held.
        rule, pattern = Rule((2,), (), (0,)), Pattern(0, 1)
        paper = shared(rule, pattern)
        self.assertEqual((paper.number, paper.stands), (2, ((((0, 0), (0, 0)),),)))
        more = ((0, 0), (0, 1)), ((0, 0), (1, 1)), ((1, 1), (0, 1)), ((0, 1), (1, 0)), ((0, 0), (1, 0))
        self.assertIs(shows_shared(rule, pattern, Shared(2, 0, paper.stands, (paper.behind[0] + more,))), True)
        self.assertIs(shows_shared(rule, pattern, Shared(2, 0, paper.stands, (paper.behind[0] + more[:4],))), False)

    def test_numbers_and_starts(self):
        rng = rng_of(148)
        for _ in range(60):
            rule = random_rule(rng, rng.choice(SMALL), 3, 2)
            pattern = Pattern(*[rng.randrange(9) for _ in range(3)])
            paper = shared(rule, pattern)
            for start in list(range(12)) + [rng.randrange(2 ** 200), 3 ** 5000]:
                wanted = greatest(banks_seen(rule, start, pattern)) == paper.number
                value = Shared(paper.number, start, paper.stands, paper.behind)
                self.assertIs(shows_shared(rule, pattern, value), wanted)
            for number in (-1, 0, paper.number - 1, paper.number + 1, True):
                value = Shared(number, paper.start, paper.stands, paper.behind)
                self.assertIs(shows_shared(rule, pattern, value), False)
                # A start with fewer addresses in a bank does not help: a stand behind tells more.
                for start in range(20):
                    value = Shared(number, start, paper.stands, paper.behind)
                    self.assertIs(shows_shared(rule, pattern, value), False)

    def test_values_of_all_kinds(self):
        rule, pattern = Rule.modulo(2), Pattern(0, 1)
        paper = shared(rule, pattern)
        for value in ANY:
            self.assertIs(shows_shared(rule, pattern, value), False)
            self.assertIs(shows_shared(rule, pattern, Shared(value, 0, paper.stands, paper.behind)),
                          type(value) is int and value == 1)
            self.assertIs(shows_shared(rule, pattern, Shared(1, value, paper.stands, paper.behind)),
                          whole(value, 0, 10 ** 99))
            self.assertIs(shows_shared(rule, pattern, Shared(1, 0, value, paper.behind)), False)
            self.assertIs(shows_shared(rule, pattern, Shared(1, 0, paper.stands, value)), False)
            for stands, behind in (((value,), paper.behind), (paper.stands, (value,)),
                                   ((paper.stands[0] + (value,),), paper.behind),
                                   (paper.stands, (paper.behind[0] + (value,),)),
                                   (paper.stands, (paper.behind[0] + ((value, (0, 0)),),)),
                                   (paper.stands, (paper.behind[0] + (((0, 0), value),),)),
                                   (paper.stands, (paper.behind[0] + (((value, 0), (0, 1)),),)),
                                   (paper.stands, (paper.behind[0] + (((0, 0), (value, 1)),),))):
                found = Shared(1, 0, stands, behind)
                self.assertIs(shows_shared(rule, pattern, found), plain_shows(rule, pattern, found))
        for lists in (Shared(1, 0, list(paper.stands), paper.behind), Shared(1, 0, paper.stands, list(paper.behind)),
                      Shared(1, 0, (list(paper.stands[0]),), paper.behind),
                      Shared(1, 0, paper.stands, (tuple(list(stand) for stand in paper.behind[0]),))):
            self.assertIs(shows_shared(rule, pattern, lists), False)

    def test_great_papers_in_a_short_time(self):
        begin = time.perf_counter()
        rule, pattern = Rule.padded(32, 5, 7), Pattern.strided(32, 10 ** 28)
        paper = shared(rule, pattern, 20000)
        self.assertIs(shows_shared(rule, pattern, paper), True)
        self.assertLess(time.perf_counter() - begin, 30)

    def test_errors_in_order(self):
        for value in without(lambda value: isinstance(value, Rule)):
            self.assertEqual(told(shows_shared, value, None, None), (BadRule, {"part": "rule"}))
        for value in without(lambda value: isinstance(value, Pattern)):
            self.assertEqual(told(shows_shared, Rule.modulo(4), value, None), (BadTile, {"part": "pattern"}))
        paper = shared(Rule.modulo(4), Pattern(0))
        self.assertIs(shows_shared(value=paper, pattern=Pattern(0), rule=Rule.modulo(4)), True)


if __name__ == "__main__":
    unittest.main()
