"""Logs, shapes of rules, and which rules of a shape fit a log."""

import inspect
import time
import unittest
from itertools import product

from helping import ANY, plain_bank, rng_of, same, told, whole, without
from lanebanks.compared import Parted, same_banks
from lanebanks.errors import BadLog, BadNumber, BadRule, TooMany
from lanebanks.rules import Rule
from lanebanks.seen import Found, Log, Shape, fitting, shows_found, surely, told_back

GREAT = 10 ** 30
SHAPES = [((2,), 0, 1), ((2,), 1, 1), ((2,), 3, 2), ((2,), 0, 4), ((3,), 2, 1), ((3,), 0, 3), ((4,), 1, 2), ((2, 2), 2, 1),
          ((2, 3), 0, 2), ((5,), 1, 1), ((7,), 0, 2), ((2, 2, 2), 1, 1), ((31,), 0, 1), ((32,), 1, 1), ((4, 2), 1, 2)]


def plain_rules(moduli, ahead, turn):
    """The rules of all choices of weights, each once, by the first choice that tells them."""
    banks = 1
    for modulus in moduli:
        banks *= modulus
    rules = []
    for weights in product(range(banks), repeat=ahead + turn):
        rule = Rule(moduli, weights[:ahead], weights[ahead:])
        key = (rule.ahead, rule.turn)
        if key not in rules:
            rules.append(key)
    return [Rule(moduli, *key) for key in rules]


def is_alike(rule, first, second):
    """Whether two addresses have one bank, as the definition tells it."""
    one, other = [plain_bank(rule.moduli, rule.ahead, rule.turn, address) for address in (first, second)]
    return one == other


def is_entry(value):
    """Whether a value is an entry of a log."""
    return (type(value) is tuple and len(value) == 3 and whole(value[0], 0, GREAT) and whole(value[1], 0, GREAT)
            and type(value[2]) is bool)


def random_log(rng, rules, most=6):
    """A log of what one of the rules shows, perhaps with an entry that is otherwise."""
    rule, entries = rng.choice(rules), []
    for _ in range(rng.randint(0, most)):
        first, second = [rng.randrange(rng.choice((4, 16, 200, GREAT))) for _ in range(2)]
        entries.append((first, second, is_alike(rule, first, second)))
    if entries and rng.random() < 0.2:
        first, second, met = entries.pop()
        entries.append((first, second, not met))
    return Log(*entries)


class LogTest(unittest.TestCase):
    def test_entries(self):
        entries = ((0, 0, True), (GREAT, 0, False), (0, GREAT, True), (5, 4, False), (5, 4, False))
        log = Log(*entries)
        self.assertTrue(same(log.entries, entries))
        self.assertEqual((len(log), list(log), len(Log()), list(Log())), (5, list(entries), 0, []))
        self.assertEqual([first for first, _, _ in log], [0, GREAT, 0, 5, 5])
        self.assertTrue(same(Log().entries, ()))
        self.assertIs((4, 5, True) in log, False)

    def test_wrong_entries(self):
        right = (3, 4, True)
        for value in ANY + [(1, 2), (1, 2, True, 3), (1, 2, 1), (1, 2, None), (True, 2, True), (1, False, True), [1, 2, True],
                            (GREAT + 1, 0, True), (0, GREAT + 1, True), (-1, 0, True), (0, -1, True), (1, 2, (True,))]:
            self.assertIs(is_entry(value), False)
            for at in range(3):
                self.assertEqual(told(Log, *[right] * at, value, 0), (BadLog, {"at": at}))
        for at in range(3):
            for value in ANY + [GREAT, GREAT + 1]:
                entry = right[:at] + (value,) + right[at + 1:]
                wanted = "none" if is_entry(entry) else (BadLog, {"at": 1})
                self.assertEqual(told(Log, right, entry), wanted)

    def test_sums_and_equality(self):
        one, other = Log((1, 2, True), (3, 4, False)), Log((1, 2, True))
        self.assertTrue(same((one + other).entries, one.entries + other.entries))
        self.assertEqual((one + Log(), Log() + one, Log() + Log()), (one, one, Log()))
        self.assertEqual((len(one), len(other)), (2, 1))
        self.assertIs(one == Log((1, 2, True), (3, 4, False)), True)
        for unlike in (other, Log(*one.entries[::-1]), Log((2, 1, True), (3, 4, False)), Log((1, 2, True), (3, 4, True)),
                       Log()):
            self.assertIs(one == unlike, False)
            self.assertIs(one != unlike, True)
        for value in ANY + [one.entries, list(one.entries)]:
            self.assertIs(one == value, False)
        for value in without(lambda value: isinstance(value, Log)):
            self.assertEqual(told(lambda: one + value), (BadLog, {"at": "other"}))

    def test_first_against(self):
        rng, seen = rng_of(200), []
        for _ in range(200):
            rules = plain_rules(*rng.choice(SHAPES[:6]))
            rule, log = rng.choice(rules), random_log(rng, rules)
            against = [at for at, (first, second, met) in enumerate(log) if is_alike(rule, first, second) != met]
            seen.append(bool(against))
            self.assertTrue(same(log.first_against(rule), (against + [None])[0]))
            self.assertTrue(same(log.first_against(rule=rule), (against + [None])[0]))
        self.assertGreater(min(seen.count(True), seen.count(False)), 40)
        for value in without(lambda value: isinstance(value, Rule)):
            self.assertEqual(told(Log().first_against, value), (BadRule, {"part": "rule"}))

    def test_long_logs(self):
        begin = time.perf_counter()
        rule = Rule.xor(5, 4)
        entries = [(k, 3 * k, is_alike(rule, k, 3 * k)) for k in range(4000)]
        log = Log(*entries) + Log(*entries)
        self.assertEqual(len(log), 8000)
        self.assertIs(log.first_against(rule), None)
        self.assertEqual((log + Log((0, 0, False))).first_against(rule), 8000)
        shape = Shape((2, 2), 2, 4)
        rule = list(shape)[1234]
        log = Log(*[(k, k * k // 3, rule(k) == rule(k * k // 3)) for k in range(20000)])
        self.assertTrue(all(same_banks(rule, other) for other in fitting(shape, log)))
        self.assertEqual(surely(shape, log, 3, 3), "met")
        self.assertIs(shows_found(shape, Found(rule, log)), True)
        self.assertLess(time.perf_counter() - begin, 20)


class ShapeTest(unittest.TestCase):
    def test_rules_in_order(self):
        for moduli, ahead, turn in SHAPES:
            shape, rules = Shape(moduli, ahead, turn), plain_rules(moduli, ahead, turn)
            self.assertEqual(list(shape), rules)
            self.assertEqual([rule for rule in shape], rules)
            self.assertTrue(all(rule in shape for rule in rules))

    def test_attributes_and_equality(self):
        for moduli in ((2, 3), [2, 3]):
            shape = Shape(turn=2, ahead=1, moduli=moduli)
            self.assertTrue(same((shape.moduli, shape.ahead, shape.turn), ((2, 3), 1, 2)))
            self.assertIs(shape == Shape((2, 3), 1, 2), True)
            for other in (Shape((3, 2), 1, 2), Shape((2, 3), 0, 2), Shape((2, 3), 1, 1), Shape((6,), 1, 2)):
                self.assertIs(shape == other, False)
            for value in ANY + [((2, 3), 1, 2)]:
                self.assertIs(shape == value, False)

    def test_lists_that_change(self):
        moduli = [2, 2]
        shape = Shape(moduli, 1, 1)
        moduli[0] = 9
        moduli.append(3)
        self.assertEqual((shape.moduli, len(list(shape)), shape == Shape((2, 2), 1, 1)), ((2, 2), 16, True))
        list(shape).clear()
        self.assertEqual(len(list(shape)), 16)

    def test_members(self):
        rng, seen = rng_of(201), []
        for moduli, ahead, turn in SHAPES:
            shape, rules = Shape(moduli, ahead, turn), plain_rules(moduli, ahead, turn)
            others = [Rule(moduli, [rng.randrange(2) for _ in range(rng.randint(0, 4))],
                           [rng.randrange(2) for _ in range(rng.randint(1, 6))]) for _ in range(60)]
            for rule in others + [-rules[-1], rules[-1] << 1, Rule((2, 2, 2, 2), (), (3,)), Rule.modulo(6)]:
                wanted = any(rule == other for other in rules)
                seen.append(wanted)
                self.assertIs(rule in shape, wanted)
            for value in without(lambda value: isinstance(value, Rule)):
                self.assertIs(value in shape, False)
        self.assertGreater(min(seen.count(True), seen.count(False)), 150)

    def test_bounds(self):
        error = (TooMany, {"what": "rules", "most": 5000})
        # The most choices below the bound, and the least ones above it.
        for moduli, ahead, turn, more in (((2,), 0, 12, 13), ((2,), 11, 1, 2), ((17,), 1, 2, 3), ((2, 2, 2), 2, 2, 3),
                                          ((31,), 0, 2, 3), ((32,), 1, 1, 2), ((4,), 5, 1, 2), ((5,), 0, 5, 6)):
            self.assertEqual(told(Shape, moduli, ahead, turn), "none")
            self.assertEqual(told(Shape, moduli, ahead, more), error)
        self.assertEqual(told(Shape, (32,), 0, 24), error)
        self.assertEqual(told(Shape, (2,), 23, 1), error)
        self.assertEqual(told(Shape, (18,), 0, 3), error)

    def test_errors_in_order(self):
        for value in ANY + [(), [], (1,), (33,), (2, True), (2, 2, 2, 2, 2, 2), (6, 6), "23", {2: 2}]:
            if not (isinstance(value, (list, tuple)) and told(Rule, value, (), (0,)) == "none"):
                self.assertEqual(told(Shape, value, -1, -1), (BadRule, {"part": "moduli"}))
        for value in without(lambda value: whole(value, 0, 24), ANY + [25]):
            self.assertTrue(same(told(Shape, (32,), value, "turn"), (BadNumber, {"value": value})))
        for ahead in (0, 1, 10, 23, 24):
            for value in without(lambda value: whole(value, 1, 24 - ahead), ANY + [25 - ahead]):
                self.assertTrue(same(told(Shape, (32,), ahead, value), (BadNumber, {"value": value})))

    def test_great_shapes_in_a_short_time(self):
        begin = time.perf_counter()
        for moduli, ahead, turn in (((2,), 0, 12), ((2,), 11, 1), ((17,), 0, 3), ((2, 2, 2), 0, 4), ((2,) * 5, 1, 1),
                                    ((4,), 3, 3)):
            shape = Shape(moduli, ahead, turn)
            rules = list(shape)
            for rule in (rules[0], rules[-1], rules[len(rules) // 3]):
                found = told_back(shape, lambda first, second: rule(first) == rule(second))
                self.assertTrue(same_banks(rule, found.rule))
                self.assertIs(shows_found(shape, found), True)
            self.assertEqual(surely(shape, Log((0, 0, True)), 0, 1), "open")
        self.assertLess(time.perf_counter() - begin, 30)


class FittingTest(unittest.TestCase):
    def test_against_all_rules(self):
        rng, seen = rng_of(202), []
        for _ in range(150):
            shape = Shape(*rng.choice(SHAPES))
            rules = list(shape)
            log = random_log(rng, rules)
            wanted = [rule for rule in rules if all(is_alike(rule, a, b) == met for a, b, met in log)]
            self.assertEqual(list(fitting(shape, log)), wanted)
            self.assertEqual(list(fitting(log=log, shape=shape)), wanted)
            for _ in range(6):
                first, second = [rng.randrange(rng.choice((4, 16, 300, GREAT))) for _ in range(2)]
                found = {is_alike(rule, first, second) for rule in wanted}
                answer = {(): None, (True,): "met", (False,): "apart", (False, True): "open"}[tuple(sorted(found))]
                seen.append(answer)
                self.assertEqual(surely(shape, log, first, second), answer)
                self.assertEqual(surely(second=first, first=second, log=log, shape=shape), answer)
        self.assertGreater(min(seen.count(answer) for answer in (None, "met", "apart", "open")), 30)

    def test_far_addresses(self):
        # Each place of the round counts once for each time round.
        shape, far = Shape((3,), 1, 2), sum(4 ** at for at in range(2, 49))
        self.assertEqual(surely(shape, Log(), far, far - 4 ** 20 - 4 ** 30 - 4 ** 40), "met")
        self.assertEqual(surely(shape, Log(), far, far - 4 ** 20 - 4 ** 30), "open")
        self.assertEqual(surely(shape, Log((far, far - 4 ** 20, True)), 0, 4), "met")
        self.assertEqual(surely(shape, Log((far, far - 4 ** 20, True)), 0, 2), "open")
        self.assertEqual(surely(shape, Log((far, far - 4 ** 20, False)), GREAT, GREAT), "met")
        self.assertEqual(surely(shape, Log((far, far, False)), 0, 0), None)

    def test_generators(self):
        shape = Shape((2,), 2, 1)
        self.assertTrue(inspect.isgenerator(fitting(shape, Log())))
        rules = fitting(shape, Log())
        self.assertEqual(next(rules), list(shape)[0])
        self.assertEqual(next(rules), list(shape)[1])
        self.assertEqual(list(rules), list(shape)[2:])
        self.assertEqual(list(fitting(shape, Log((1, 1, False)))), [])

    def test_errors_in_order(self):
        shape, log = Shape((2,), 1, 1), Log()
        for value in without(lambda value: isinstance(value, Shape)):
            self.assertEqual(told(lambda: next(fitting(value, 0))), (BadRule, {"part": "shape"}))
            self.assertEqual(told(surely, value, 0, -1, -1), (BadRule, {"part": "shape"}))
            self.assertEqual(told(told_back, value, None), (BadRule, {"part": "shape"}))
            self.assertEqual(told(shows_found, value, value), (BadRule, {"part": "shape"}))
        for value in without(lambda value: isinstance(value, Log)):
            self.assertEqual(told(lambda: next(fitting(shape, value))), (BadLog, {"at": "log"}))
            self.assertEqual(told(surely, shape, value, -1, -1), (BadLog, {"at": "log"}))
        for value in without(lambda value: whole(value, 0, GREAT), ANY + [GREAT + 1]):
            self.assertTrue(same(told(surely, shape, log, value, None), (BadNumber, {"value": value})))
            self.assertTrue(same(told(surely, shape, log, GREAT, value), (BadNumber, {"value": value})))
            # Errors come also where no rule fits.
            self.assertTrue(same(told(surely, shape, Log((0, 0, False)), 0, value), (BadNumber, {"value": value})))


class ToldBackTest(unittest.TestCase):
    def plain_found(self, shape, answer):
        """The rule and the entries, as the document tells them step by step."""
        left, entries = list(shape), []
        while True:
            papers = [same_banks(left[0], rule) for rule in left]
            papers = [paper for paper in papers if not paper]
            if not papers:
                return left[0], entries
            self.assertIs(type(papers[0]), Parted)
            first, second = papers[0].first, papers[0].second
            met = answer(first, second)
            entries.append((first, second, met))
            left = [rule for rule in left if is_alike(rule, first, second) == met]

    def test_what_is_asked(self):
        rng = rng_of(203)
        for _ in range(60):
            shape = Shape(*rng.choice(SHAPES[:12]))
            hidden, asked = rng.choice(list(shape)), []

            def ask(first, second):
                asked.append((first, second))
                return is_alike(hidden, first, second)

            found = told_back(shape, ask)
            rule, entries = self.plain_found(shape, lambda first, second: is_alike(hidden, first, second))
            self.assertIs(type(found), Found)
            self.assertEqual((found.rule, found.log), (rule, Log(*entries)))
            self.assertTrue(same(asked, [entry[:2] for entry in entries]))
            self.assertTrue(same_banks(hidden, found.rule))
            self.assertIs(shows_found(shape, found), True)
            self.assertEqual(told_back(ask=ask, shape=shape), found)

    def test_any_answers(self):
        # Whatever is answered, one of the two rules that are parted is left.
        rng = rng_of(204)
        for _ in range(60):
            shape, seed = Shape(*rng.choice(SHAPES[:12])), rng.randrange(10 ** 9)
            chances, others = rng_of(seed), rng_of(seed)
            found = told_back(shape, lambda first, second: chances.random() < 0.5)
            rule, entries = self.plain_found(shape, lambda first, second: others.random() < 0.5)
            self.assertEqual((found.rule, found.log), (rule, Log(*entries)))
            self.assertIs(shows_found(shape, found), True)

    def test_no_questions(self):
        # With one place that all share no two rules but that of 0 and the others are unlike.
        self.assertEqual(len(list(Shape((2,), 0, 1))), 2)
        asked = []
        shape = Shape((3,), 0, 1)
        found = told_back(shape, lambda first, second: asked.append((first, second)) or False)
        self.assertEqual((asked, found), ([(0, 1)], Found(Rule((3,), (), (1,)), Log((0, 1, False)))))
        found = told_back(shape, lambda first, second: True)
        self.assertEqual(found, Found(Rule((3,), (), (0,)), Log((0, 1, True))))

    def test_wrong_answers(self):
        shape = Shape((5,), 1, 1)
        hidden = Rule((5,), (4,), (3,))
        many = len(told_back(shape, lambda first, second: hidden(first) == hidden(second)).log)
        self.assertGreater(many, 2)
        for at in range(many):
            for value in without(lambda value: isinstance(value, bool)):
                asked = []

                def ask(first, second):
                    asked.append((first, second))
                    return value if len(asked) == at + 1 else hidden(first) == hidden(second)

                self.assertEqual(told(told_back, shape, ask), (BadLog, {"at": at}))
                self.assertEqual(len(asked), at + 1)

    def test_errors_of_ask_go_on(self):
        def ask(first, second):
            raise KeyError("asked")

        self.assertRaises(KeyError, told_back, Shape((2,), 1, 1), ask)

        def refuse(first, second):
            raise BadLog("mine")

        self.assertEqual(told(told_back, Shape((2,), 1, 1), refuse), (BadLog, {"at": "mine"}))


class ShowsFoundTest(unittest.TestCase):
    def wanted(self, shape, value):
        """What the document says of a right Found."""
        if type(value) is not Found or type(value.log) is not Log or type(value.rule) is not Rule:
            return False
        rules = list(shape)
        left = [rule for rule in rules if all(is_alike(rule, a, b) == met for a, b, met in value.log)]
        return (any(value.rule == rule for rule in rules) and any(value.rule == rule for rule in left)
                and all(same_banks(value.rule, rule) for rule in left))

    def test_changed_papers(self):
        rng, seen = rng_of(205), []
        for _ in range(60):
            shape = Shape(*rng.choice(SHAPES[:12]))
            hidden = rng.choice(list(shape))
            found = told_back(shape, lambda first, second: hidden(first) == hidden(second))
            entries = found.log.entries
            values = [Found(rule, found.log) for rule in rng.sample(list(shape), min(6, len(list(shape)))) + [hidden]]
            values += [Found(found.rule, Log(*entries[:at], *entries[at + 1:])) for at in range(min(3, len(entries)))]
            values += [Found(found.rule, found.log + random_log(rng, [found.rule], 2)), Found(found.rule, Log()),
                       Found(found.rule, Log(*entries[::-1], *entries)), Found(found.rule, entries),
                       Found(found.rule << 1, found.log), Found(Rule.modulo(3), found.log), Found(str(found.rule), found.log)]
            for value in values:
                wanted = self.wanted(shape, value)
                seen.append(wanted)
                self.assertIs(shows_found(shape, value), wanted)
                self.assertIs(shows_found(value=value, shape=shape), wanted)
        self.assertGreater(min(seen.count(True), seen.count(False)), 100)

    def test_a_rule_beyond_the_shape(self):
        # It puts the same addresses together, but it is none of the shape.
        shape = Shape((2,), 0, 1)
        self.assertIs(shows_found(shape, Found(Rule((2,), (), (1,)), Log((0, 1, False)))), True)
        self.assertIs(shows_found(shape, Found(Rule((3,), (), (0,)), Log((0, 1, True)))), False)
        self.assertTrue(same_banks(Rule((3,), (), (0,)), Rule((2,), (), (0,))))

    def test_no_rule_left(self):
        shape = Shape((2,), 0, 1)
        for rule in shape:
            self.assertIs(shows_found(shape, Found(rule, Log((0, 0, False)))), False)

    def test_values_of_all_kinds(self):
        shape, rule, log = Shape((2,), 0, 1), Rule((2,), (), (1,)), Log((0, 1, False))
        self.assertIs(shows_found(shape, Found(rule, log)), True)
        for value in ANY:
            self.assertIs(shows_found(shape, value), False)
            self.assertIs(shows_found(shape, Found(value, log)), False)
            self.assertIs(shows_found(shape, Found(rule, value)), value == log)


if __name__ == "__main__":
    unittest.main()
