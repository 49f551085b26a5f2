"""Bank rules."""

import unittest

from helping import ANY, plain_bank, plain_parts, random_rule, rng_of, same, told, whole, without
from lanebanks.errors import BadNumber, BadRule, TooMany
from lanebanks.rules import Rule

MODULI = [(2,), (3,), (32,), (31,), (2, 2), (2, 3), (3, 2), (2, 2, 2), (4, 8), (16, 2), (5, 6), (2, 2, 2, 2, 2),
          (2, 3, 5)]
TOO_MANY = (TooMany, {"what": "places", "most": 24})


def product(moduli):
    """How many banks these moduli make."""
    banks = 1
    for modulus in moduli:
        banks *= modulus
    return banks


def plain_places(weight, far=260, most=120):
    """The places ahead and in the round of the normal form for weights that are told place by place."""
    row = [weight(place) for place in range(far)]
    for length in range(1, most):
        if row[most:far - length] == row[most + length:far]:
            ahead = most
            while ahead and row[ahead - 1] == row[ahead - 1 + length]:
                ahead -= 1
            return row[:ahead], row[ahead:ahead + length]
    raise AssertionError("no round")


def addresses(rng):
    """Addresses that are near, far and very far."""
    return list(range(70)) + [rng.randrange(10 ** 40) for _ in range(8)] + [2 ** 131 - 1, 2 ** 300, 3 ** 500, 0]


class ClassTest(unittest.TestCase):
    def test_normal_form(self):
        rng = rng_of(40)
        for _ in range(400):
            moduli = rng.choice(MODULI)
            banks = rng.choice([2, product(moduli)])
            ahead = [rng.randrange(banks) for _ in range(rng.randint(0, 6))]
            turn = [rng.randrange(banks) for _ in range(rng.randint(1, 4))] * rng.randint(1, 3)
            rule = Rule(moduli, ahead, turn)
            wanted = plain_places(lambda place: (ahead + turn * 300)[place])
            self.assertTrue(same((rule.moduli, rule.ahead, rule.turn), (moduli, tuple(wanted[0]), tuple(wanted[1]))))
            for other in (Rule(list(moduli), tuple(ahead), tuple(turn)), Rule(moduli, ahead + turn, turn * 2),
                          Rule(turn=turn, moduli=moduli, ahead=ahead)):
                self.assertTrue(same((other.moduli, other.ahead, other.turn), (rule.moduli, rule.ahead, rule.turn)))
                self.assertIs(rule == other, True)
                self.assertIs(rule != other, False)

    def test_lists_changed_behind_it(self):
        moduli, ahead, turn = [4], [1, 2], [3, 0]
        rule = Rule(moduli, ahead, turn)
        moduli[0], ahead[0], turn[0] = 8, 3, 1
        turn.append(2)
        self.assertEqual(str(rule), "moduli 4 ahead 1 2 round 3 0")
        self.assertEqual([rule(address) for address in (1, 2, 4, 8)], [1, 2, 3, 0])

    def test_equality(self):
        rule = Rule((4,), (1,), (2,))
        for other in (Rule((2, 2), (1,), (2,)), Rule((5,), (1,), (2,)), Rule((4,), (), (2,)), Rule((4,), (3,), (2,)),
                      Rule((4,), (1,), (2, 1)), Rule((4,), (1, 1), (2,)), Rule((4,), (1,), (3,)),
                      Rule((4,), (1,), (2, 3))):
            self.assertIs(rule == other, False)
            self.assertIs(rule != other, True)
        for value in ANY + ["moduli 4 ahead 1 round 2"]:
            if not isinstance(value, Rule):
                self.assertIs(rule == value, False)

    def test_bad_moduli(self):
        for moduli in [value for value in ANY if value != (1, 2)] + [
                (1,), (0,), (-2,), (33,), (True, 2), (2.0,), ("2",), (2, None), (2, 17), (17, 2), (2, 2, 2, 2, 3),
                (4, 9), (2,) * 6, (2, 2, 2, 2, 2, 2), [2, [2]], "22", {2: 2}, (32, 2), (10 ** 40,), (1, 2), (2, 1)]:
            self.assertEqual(told(Rule, moduli, None, None), (BadRule, {"part": "moduli"}), repr(moduli)[:50])
            self.assertEqual(told(Rule, moduli, (), (0,)), (BadRule, {"part": "moduli"}), repr(moduli)[:50])
        for moduli in ((2,), (32,), (2, 16), (16, 2), (2, 2, 2, 2, 2), (2, 3, 5), (31,), [4, 8], (5, 6)):
            self.assertEqual(told(Rule, moduli, (), (0,)), "none")

    def test_bad_ahead(self):
        good = ([], (), [1], (1,), [1, 2], (1, 2), [3])
        for ahead in [value for value in ANY if value not in ([1, 2], (1,), (1, 2), (), [])] + [
                [4], (4,), [-1], [True], [1, None], ["1"], "1", [[1]], {1: 1}, [0, 1, 2, 3, 4], [10 ** 40]]:
            self.assertEqual(told(Rule, (4,), ahead, None), (BadRule, {"part": "ahead"}), repr(ahead)[:50])
            self.assertEqual(told(Rule, (2, 2), ahead, (0,)), (BadRule, {"part": "ahead"}), repr(ahead)[:50])
        for ahead in good:
            self.assertEqual(told(Rule, (4,), ahead, (0,)), "none")

    def test_bad_turn(self):
        for turn in [value for value in ANY if value not in ([1, 2], (1,), (1, 2))] + [
                (), [], [4], (4,), [-1], [False], [1, None], ["1"], "1", [[1]], {1: 1}, [0, 1, 2, 3, 4]]:
            self.assertEqual(told(Rule, (4,), (0,), turn), (BadRule, {"part": "turn"}), repr(turn)[:50])
        self.assertEqual(told(Rule, (4,), [0] * 30, []), (BadRule, {"part": "turn"}))

    def test_too_many_places(self):
        rng = rng_of(41)
        row = [rng.randrange(1, 31) for _ in range(40)]
        for ahead in range(0, 26):
            for turn in range(1, 26):
                weights, around = [0] * ahead, row[:turn]
                if ahead:
                    weights[-1] = 31
                wanted = "none" if ahead + turn <= 24 else TOO_MANY
                self.assertEqual(told(Rule, (32,), weights, around), wanted)
        # By the normal form alone.
        self.assertEqual(Rule((4,), [1, 2] * 100, [1, 2] * 300).classes, 2)
        self.assertEqual(Rule((4,), [1] * 2000, [1]).ahead, ())
        self.assertEqual(Rule((4,), (), [1, 2, 3] * 600).turn, (1, 2, 3))
        self.assertEqual(Rule((4,), [0] * 23, [1]).classes, 24)
        self.assertEqual(told(Rule, (4,), [0] * 24, [1]), TOO_MANY)
        self.assertEqual(told(Rule, (4,), [0] * 24, [1, 2]), TOO_MANY)


class AddressTest(unittest.TestCase):
    def test_banks_against_plain_sums(self):
        rng = rng_of(42)
        for _ in range(120):
            rule = random_rule(rng, rng.choice(MODULI))
            for address in addresses(rng):
                wanted = plain_bank(rule.moduli, rule.ahead, rule.turn, address)
                self.assertTrue(same(rule(address), wanted))
        self.assertEqual(rule(address=5), rule(5))

    def test_very_great_addresses(self):
        address = 10 ** 30000 + 17
        self.assertEqual(Rule.modulo(12)(address), address % 12)
        self.assertEqual(Rule.modulo(32)(address), address % 32)
        self.assertEqual(Rule.xor(1)(address), bin(address).count("1") % 2)

    def test_wrong_addresses(self):
        rule = Rule.modulo(4)
        for value in without(lambda value: whole(value, 0, 10 ** 50)) + [-1, -10 ** 40]:
            wanted = (BadNumber, {"value": value})
            self.assertTrue(same(told(rule, value), wanted))
            self.assertTrue(same(told(rule.weight, value), wanted))
            self.assertTrue(same(told(rule.class_of, value), wanted))

    def test_weights_and_classes(self):
        rng = rng_of(43)
        for _ in range(100):
            rule = random_rule(rng)
            ahead, turn = len(rule.ahead), len(rule.turn)
            self.assertTrue(same(rule.classes, ahead + turn))
            self.assertTrue(same(rule.banks, product(rule.moduli)))
            for place in list(range(60)) + [10 ** 40, 10 ** 60 + 1]:
                wanted = place if place < ahead else ahead + (place - ahead) % turn
                self.assertTrue(same(rule.class_of(place), wanted))
                self.assertTrue(same(rule.class_of(place=place), wanted))
                self.assertTrue(same(rule.weight(place), (rule.ahead + rule.turn)[wanted]))
                self.assertTrue(same(rule.weight(place=place), rule.weight(place)))
                self.assertEqual(rule.next_class(rule.class_of(place)), rule.class_of(place + 1))
                if place < 60:
                    self.assertEqual(rule.weight(place), rule(2 ** place))
            for number in range(rule.classes):
                wanted = number + 1 if number + 1 < ahead + turn else ahead
                self.assertTrue(same(rule.next_class(number=number), wanted))
            for value in without(lambda value: whole(value, 0, rule.classes - 1)) + [rule.classes, -1]:
                self.assertTrue(same(told(rule.next_class, value), (BadNumber, {"value": value})))

    def test_is_cut(self):
        for rule, wanted in ((Rule((4,), (1,), (0,)), True), (Rule((4,), (), (0, 0)), True), (Rule.modulo(8), True),
                             (Rule.modulo(3), False), (Rule((4,), (1,), (0, 1)), False), (Rule.xor(2), False),
                             (Rule((4,), (0,), (1,)), False), (Rule.xor(2, 1), True)):
            self.assertIs(rule.is_cut, wanted)


class BanksTest(unittest.TestCase):
    def test_all_banks(self):
        for moduli in MODULI:
            rule = Rule(moduli, (), (0,))
            for one in range(rule.banks):
                parts = rule.parts(one)
                self.assertTrue(same(parts, tuple(plain_parts(moduli, one))))
                self.assertTrue(same(rule.parts(bank=one), parts))
                self.assertTrue(same(rule.bank_of(*parts), one))
                for other in range(rule.banks):
                    beside = rule.parts(other)
                    total = rule.added(one, other)
                    wanted = tuple((a + b) % m for a, b, m in zip(parts, beside, moduli))
                    self.assertEqual(plain_parts(moduli, total), list(wanted))
                    self.assertTrue(whole(total, 0, rule.banks - 1))
                    self.assertTrue(same(rule.less(total, other), one))
                    self.assertEqual(rule.added(other=other, one=one), total)
                    self.assertEqual(rule.less(other=other, one=total), one)

    def test_wrong_banks(self):
        rule = Rule((2, 3), (), (1,))
        for value in without(lambda value: whole(value, 0, 5)) + [6, -1]:
            wanted = (BadNumber, {"value": value})
            for work in (rule.added, rule.less):
                self.assertTrue(same(told(work, value, 3), wanted))
                self.assertTrue(same(told(work, 3, value), wanted))
                self.assertTrue(same(told(work, value, "x"), wanted))
            self.assertTrue(same(told(rule.parts, value), wanted))

    def test_wrong_parts(self):
        rule, wanted = Rule((2, 3), (), (1,)), (BadRule, {"part": "parts"})
        for value in without(lambda value: whole(value, 0, 1)) + [2, -1]:
            self.assertEqual(told(rule.bank_of, value, 1), wanted)
        for value in without(lambda value: whole(value, 0, 2)) + [3, -1]:
            self.assertEqual(told(rule.bank_of, 1, value), wanted)
        for parts in ((), (1,), (1, 1, 1), ((1, 1),), (1, 2, 0)):
            self.assertEqual(told(rule.bank_of, *parts), wanted)
        self.assertEqual(rule.bank_of(1, 2), 5)
        self.assertEqual(rule.bank_of(0, 2), 4)


class OperatorsTest(unittest.TestCase):
    def test_products(self):
        rng = rng_of(44)
        for _ in range(80):
            one = random_rule(rng, rng.choice([(2,), (3,), (2, 2), (4,)]), 3, 3)
            other = random_rule(rng, rng.choice([(2,), (5,), (2, 3), (8,)]), 3, 3)
            both = one * other
            self.assertEqual(both.moduli, one.moduli + other.moduli)
            for address in addresses(rng):
                self.assertEqual(both.parts(both(address)), one.parts(one(address)) + other.parts(other(address)))

    def test_sums(self):
        rng = rng_of(45)
        for _ in range(80):
            moduli = rng.choice(MODULI)
            one, other = random_rule(rng, moduli, 5, 3), random_rule(rng, moduli, 5, 4)
            both, negative = one + other, -one
            self.assertEqual((both.moduli, negative.moduli), (moduli, moduli))
            for address in addresses(rng):
                self.assertEqual(both(address), one.added(one(address), other(address)))
                self.assertEqual(one.added(negative(address), one(address)), 0)
            self.assertEqual(one + negative, Rule(moduli, (), (0,)))
            self.assertEqual(-negative, one)

    def test_wrong_others(self):
        one = Rule.modulo(4)
        for value in ANY:
            if not isinstance(value, Rule):
                self.assertEqual(told(lambda: one * value), (BadRule, {"part": "other"}))
                self.assertEqual(told(lambda: one + value), (BadRule, {"part": "other"}))
        for moduli in ((2, 2), (5,), (4, 2), (2,)):
            self.assertEqual(told(lambda: one + Rule(moduli, (), (0,))), (BadRule, {"part": "other"}))

    def test_products_that_are_no_rules(self):
        wanted = (BadRule, {"part": "moduli"})
        self.assertEqual(told(lambda: Rule.modulo(4) * Rule.modulo(9)), wanted)
        self.assertEqual(told(lambda: Rule.xor(3) * Rule.xor(3)), wanted)
        self.assertEqual(told(lambda: Rule.xor(5) * Rule.xor(1)), wanted)
        self.assertEqual((Rule.modulo(4) * Rule.modulo(8)).banks, 32)
        self.assertEqual((Rule.xor(4) * Rule.xor(1)).moduli, (2,) * 5)
        # Also when there are too many places.
        five, seven = Rule((11,), (), [1, 2, 3, 4, 5]), Rule((3,), (), [1, 0, 0, 0, 0, 0, 0])
        self.assertEqual(told(lambda: five * seven), wanted)

    def test_too_many_places(self):
        five, seven = Rule((4,), (), [1, 2, 3, 0, 0]), Rule((4,), (), [1, 0, 0, 0, 0, 0, 0])
        self.assertEqual(told(lambda: five * seven), TOO_MANY)
        self.assertEqual(told(lambda: five + seven), TOO_MANY)
        three, eight = Rule((4,), (), [1, 2, 3]), Rule((4,), (), [1, 0, 0, 0, 0, 0, 0, 0])
        self.assertEqual(((three * eight).classes, (three + eight).classes), (24, 24))
        self.assertEqual(told(lambda: (three << 1) * eight), TOO_MANY)
        # The sum can have a short normal form all the same.
        twelve = Rule((4,), [0] * 12, [1, 2, 3, 0, 0, 0, 0, 0, 0, 0, 0, 0])
        self.assertEqual(str(twelve + -twelve), "moduli 4 ahead - round 0")

    def test_shifts_and_cuts(self):
        rng = rng_of(46)
        for _ in range(40):
            rule = random_rule(rng)
            for number in range(25):
                if number + rule.classes <= 24:
                    shifted = rule << number
                    for address in [0, 1, 5, 2 ** number, 2 ** number - 1, 10 ** 30 + 3, rng.randrange(10 ** 40)]:
                        self.assertEqual(shifted(address), rule(address // 2 ** number))
                cut = told(rule.cut, number)
                if number < 24:
                    self.assertEqual(cut, "none")
                    for address in [0, 1, 5, 2 ** number, 10 ** 30 + 3, rng.randrange(10 ** 40)]:
                        self.assertEqual(rule.cut(number)(address), rule(address % 2 ** number))
                    self.assertEqual(rule.cut(number=number), rule.cut(number))
                    self.assertIs(rule.cut(number).is_cut, True)

    def test_far_shifts_and_cuts(self):
        zero, ones = Rule((4,), (), (0,)), Rule((4,), (), (1,))
        self.assertEqual(zero << 24, zero)
        self.assertEqual(zero.cut(24), zero)
        self.assertEqual((ones << 23).ahead, (0,) * 23)
        self.assertEqual(told(lambda: ones << 24), TOO_MANY)
        self.assertEqual(ones.cut(23).ahead, (1,) * 23)
        self.assertEqual(told(ones.cut, 24), TOO_MANY)
        self.assertEqual(ones.cut(0), zero)
        self.assertEqual(ones << 0, ones)
        self.assertEqual(Rule.modulo(4).cut(24), Rule.modulo(4))

    def test_wrong_numbers(self):
        rule = Rule.modulo(4)
        for value in without(lambda value: whole(value, 0, 24)) + [25, -1]:
            self.assertTrue(same(told(lambda: rule << value), (BadNumber, {"value": value})))
            self.assertTrue(same(told(rule.cut, value), (BadNumber, {"value": value})))

    def test_operands_stay(self):
        one, other = Rule.modulo(3), Rule.modulo(3) << 2
        kept = str(one), str(other)
        _ = one * other, one + other, -one, one << 3, one.cut(2)
        self.assertEqual((str(one), str(other)), kept)


class MakersTest(unittest.TestCase):
    def check(self, work, values, moduli, bank, weight):
        """Make a rule, compare its places with those of its weights, and its banks with plain ones."""
        ahead, turn = plain_places(weight)
        error = told(work, *values)
        self.assertEqual(error, "none" if len(ahead) + len(turn) <= 24 else TOO_MANY, values)
        if error == "none":
            rule = work(*values)
            self.assertTrue(same((rule.moduli, rule.ahead, rule.turn), (moduli, tuple(ahead), tuple(turn))))
            for address in (0, 1, 2, 3, 77, 4095, 2 ** 60 - 1, 10 ** 40 - 1):
                self.assertEqual(rule(address), bank(address), (values, address))

    def test_modulo(self):
        for banks in range(2, 33):
            self.check(Rule.modulo, (banks,), (banks,), lambda address: address % banks,
                       lambda place: 2 ** place % banks)
        self.assertEqual(Rule.modulo(banks=6), Rule.modulo(6))
        for value in without(lambda value: whole(value, 2, 32)) + [1, 33, 0]:
            self.assertEqual(told(Rule.modulo, value), (BadRule, {"part": "banks"}))

    def test_xor(self):
        for bits in range(1, 6):
            for folds in range(9):
                def bank(address):
                    digits = [address >> place & 1 for place in range(folds * bits if folds else 200)]
                    return sum((sum(digits[bit::bits]) % 2) << bit for bit in range(bits))
                self.check(Rule.xor, (bits, folds), (2,) * bits, bank,
                           lambda place: 2 ** (place % bits) if not folds or place < folds * bits else 0)
            self.assertEqual(Rule.xor(bits), Rule.xor(bits=bits, folds=0))
        for value in without(lambda value: whole(value, 1, 5)) + [0, 6, -1]:
            self.assertEqual(told(Rule.xor, value), (BadRule, {"part": "bits"}))
            self.assertEqual(told(Rule.xor, value, 9), (BadRule, {"part": "bits"}))
        for value in without(lambda value: whole(value, 0, 8)) + [9, -1]:
            self.assertEqual(told(Rule.xor, 5, value), (BadRule, {"part": "folds"}))

    def test_padded(self):
        for banks in range(2, 33):
            for every in range(1, 13):
                for pad in {0, 1 % banks, 2 % banks, banks // 2, banks - 1, banks * 2 // 3}:
                    self.check(Rule.padded, (banks, every, pad), (banks,),
                               lambda address: (address + pad * (address >> every)) % banks,
                               lambda place: (2 ** place + (pad << place >> every) * (place >= every)) % banks)
        self.assertEqual(Rule.padded(pad=1, banks=4, every=2), Rule.padded(4, 2, 1))

    def test_padded_errors(self):
        for value in without(lambda value: whole(value, 2, 32)) + [1, 33]:
            self.assertEqual(told(Rule.padded, value, 0, -1), (BadRule, {"part": "banks"}))
        for value in without(lambda value: whole(value, 1, 12)) + [0, 13]:
            self.assertEqual(told(Rule.padded, 29, value, 29), (BadRule, {"part": "every"}))
        for banks in (2, 3, 29, 32):
            for value in without(lambda value: whole(value, 0, banks - 1)) + [banks, -1]:
                self.assertEqual(told(Rule.padded, banks, 1, value), (BadRule, {"part": "pad"}))


if __name__ == "__main__":
    unittest.main()
