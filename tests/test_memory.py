"""Memories: words, clocks, deeds that are taken back, blocks of work."""

import inspect
import time
import unittest

from helping import ANY, cut_rule, plain_bank, random_rule, rng_of, same, told, whole, without
from lanebanks.errors import BadMemory, BadNumber, Nothing, TooMany
from lanebanks.memory import Memory, Served
from lanebanks.rules import Rule
from lanebanks.units import is_free

FAR, GREAT = 10 ** 34, 10 ** 30
PAD = Rule((4,), (1, 2, 1, 2), (0,))


def plain_ticks(rule, addresses):
    """The greatest number of unlike addresses in one bank."""
    banks = [plain_bank(rule.moduli, rule.ahead, rule.turn, address) for address in set(addresses)]
    return max([banks.count(bank) for bank in banks], default=0)


class Model:
    """A memory as the document tells it, with a whole copy of what stood before each deed."""

    def __init__(self, rule, lanes=4):
        self.lanes, self.rule, self.held, self.clock, self.deeds = lanes, rule, {}, 0, []

    def deed(self, word):
        self.deeds = self.deeds + [(word, (self.rule, self.held, self.clock))]

    def store(self, address, word):
        self.deed("store")
        self.held = {**self.held, address: word}

    def load(self, *addresses):
        self.deed("load")
        ticks = plain_ticks(self.rule, addresses)
        self.clock += ticks
        return Served(tuple(self.held.get(address, 0) for address in addresses), ticks)

    def load_unit(self, start, stride):
        return self.load(*[start + lane * stride for lane in range(self.lanes)])

    def sweep(self, start, stride, many):
        self.deed("sweep")
        addresses = [start + at * stride for at in range(many)]
        ticks = 0
        while addresses:
            ticks += plain_ticks(self.rule, addresses[:self.lanes])
            addresses = addresses[self.lanes:]
        self.clock += ticks
        return ticks

    def swap(self, rule):
        self.deed("swap")
        self.rule = rule

    def undo(self):
        word, (self.rule, self.held, self.clock) = self.deeds[-1]
        self.deeds = self.deeds[:-1]
        return word

    def shown(self):
        return (self.rule, self.lanes, self.clock, len(self.deeds),
                sorted((address, word) for address, word in self.held.items() if word != 0))


def shown(memory):
    """All that a memory shows."""
    return memory.rule, memory.lanes, memory.clock, len(memory), list(memory.words())


def random_deed(rng):
    """A word and values of a deed, on few addresses."""
    word = rng.choice(("store", "store", "store", "load", "load_unit", "sweep", "swap"))
    address = rng.choice((rng.randrange(6), rng.randrange(40), FAR - rng.randrange(3)))
    if word == "store":
        return word, (address, rng.choice((0, 0, 1, -3, rng.randrange(9), FAR, -FAR)))
    if word == "load":
        return word, [rng.choice((address, rng.randrange(9))) for _ in range(rng.randint(0, 3))]
    if word == "swap":
        return word, (random_rule(rng),)
    return word, (rng.choice((rng.randrange(9), GREAT)), rng.choice((0, rng.randrange(9), GREAT))) + (
        (rng.randrange(20),) if word == "sweep" else ())


class WordsTest(unittest.TestCase):
    def test_words_over_words(self):
        memory = Memory(PAD)
        self.assertEqual((memory[0], memory[FAR], list(memory.words()), len(memory), memory.clock), (0, 0, [], 0, 0))
        for address in (0, 5, 4, FAR):
            for word in (7, -FAR, FAR, 0, -1):
                memory[address] = word
                self.assertTrue(same(memory[address], word))
                memory.store(address, word - 1 if word > -FAR else word)
                self.assertTrue(same(memory[address], word - 1 if word > -FAR else word))
                self.assertIs(memory.store(word=word, address=address), None)
                self.assertTrue(same(memory[address], word))
        self.assertEqual(list(memory.words()), [(0, -1), (4, -1), (5, -1), (FAR, -1)])
        self.assertEqual((len(memory), memory.clock), (60, 0))
        memory[4] = 0
        memory[9] = 0
        self.assertEqual(list(memory.words()), [(0, -1), (5, -1), (FAR, -1)])
        memory[5] += 3
        self.assertEqual((memory[5], len(memory)), (2, 63))

    def test_words_are_a_generator(self):
        memory = Memory(PAD)
        for address in (9, 2, 30, 4):
            memory[address] = address
        self.assertTrue(inspect.isgenerator(memory.words()))
        pairs = memory.words()
        self.assertEqual(next(pairs), (2, 2))
        memory[4] = 0
        memory[31] = 1
        self.assertEqual([next(pairs), next(pairs), next(pairs)], [(4, 4), (9, 9), (30, 30)])
        self.assertTrue(all(type(pair) is tuple for pair in memory.words()))

    def test_wrong_addresses_and_words(self):
        memory = Memory(PAD)
        memory[3] = 8
        before = shown(memory)
        for value in without(lambda value: whole(value, 0, FAR), ANY + [FAR + 1, -1]):
            error = (BadNumber, {"value": value})
            self.assertTrue(same(told(lambda: memory[value]), error))
            self.assertTrue(same(told(memory.store, value, "word"), error))
            self.assertTrue(same(told(memory.__setitem__, value, "word"), error))
        for value in without(lambda value: whole(value, -FAR, FAR), ANY + [FAR + 1, -FAR - 1]):
            error = (BadNumber, {"value": value})
            self.assertTrue(same(told(memory.store, 3, value), error))
            self.assertTrue(same(told(memory.__setitem__, 3, value), error))
        self.assertEqual(shown(memory), before)

    def test_not_iterated_over(self):
        memory = Memory(PAD)
        memory[0] = 1
        self.assertRaises(TypeError, iter, memory)
        self.assertRaises(TypeError, list, memory)
        with self.assertRaises(TypeError):
            for _ in memory:
                pass


class MadeTest(unittest.TestCase):
    def test_by_position_and_by_name(self):
        for memory in (Memory(PAD), Memory(rule=PAD), Memory(PAD, 4), Memory(lanes=4, rule=PAD)):
            self.assertEqual(shown(memory), (PAD, 4, 0, 0, []))
        for lanes in range(2, 17):
            self.assertTrue(same(Memory(PAD, lanes).lanes, lanes))

    def test_errors_in_order(self):
        for value in without(lambda value: isinstance(value, Rule)):
            self.assertEqual(told(Memory, value, 0), (BadMemory, {"part": "rule"}))
        for value in without(lambda value: whole(value, 2, 16)) + [17, 1]:
            self.assertEqual(told(Memory, PAD, value), (BadMemory, {"part": "lanes"}))
            self.assertEqual(told(Memory, PAD, lanes=value), (BadMemory, {"part": "lanes"}))

    def test_equal_to_itself_alone(self):
        memory = Memory(PAD)
        self.assertIs(memory == memory, True)
        for value in ANY + [Memory(PAD), memory.twin()]:
            self.assertIs(memory == value, False)

    def test_properties(self):
        memory = Memory(PAD, 3)
        with self.assertRaises(AttributeError):
            memory.lanes = 4
        with self.assertRaises(AttributeError):
            memory.clock = 4
        self.assertEqual(shown(memory), (PAD, 3, 0, 0, []))


class LoadTest(unittest.TestCase):
    def test_loads(self):
        memory = Memory(PAD)
        memory[4], memory[1] = 7, -2
        for addresses, words, ticks in (((1, 2, 3, 4), (-2, 0, 0, 7), 2), ((4, 4, 4), (7, 7, 7), 1), ((), (), 0),
                                        ((4, 1), (7, -2), 2), ((FAR,), (0,), 1), ((0, 16, 32, 48), (0,) * 4, 4)):
            clock = memory.clock
            served = memory.load(*addresses)
            self.assertIs(type(served), Served)
            self.assertTrue(same((served.loaded, served.ticks), (words, ticks)))
            self.assertTrue(same(memory.clock, clock + ticks))
        self.assertEqual(len(memory), 8)

    def test_ticks_against_the_banks(self):
        rng = rng_of(210)
        for _ in range(200):
            rule, lanes = random_rule(rng), rng.randint(2, 16)
            memory = Memory(rule, lanes)
            size = rng.choice((3, 20, FAR))
            addresses = [rng.randrange(size) for _ in range(rng.randint(0, lanes))]
            for address in addresses:
                memory[address] = address + 1 if address < FAR else 5
            words = tuple(memory[address] for address in addresses)
            self.assertEqual(memory.load(*addresses), Served(words, plain_ticks(rule, addresses)))

    def test_wrong_addresses_come_first(self):
        memory = Memory(PAD, 2)
        for value in without(lambda value: whole(value, 0, FAR), ANY + [FAR + 1]):
            for addresses in ((value,), (1, value), (1, 2, 3, value), (1, value, 3, -5), (1, 2, value)):
                self.assertTrue(same(told(memory.load, *addresses), (BadNumber, {"value": value})))
        for addresses in ((1, 2, 3), (1, 1, 1), (0,) * 50):
            self.assertEqual(told(memory.load, *addresses), (TooMany, {"what": "lanes", "most": 2}))
        self.assertEqual(shown(memory), (PAD, 2, 0, 0, []))
        for lanes in (2, 3, 16):
            memory = Memory(PAD, lanes)
            self.assertEqual(memory.load(*[0] * lanes).ticks, 1)
            self.assertEqual(told(memory.load, *[0] * (lanes + 1)), (TooMany, {"what": "lanes", "most": lanes}))

    def test_units(self):
        rng = rng_of(211)
        for _ in range(150):
            rule, lanes = random_rule(rng), rng.randint(2, 16)
            memory = Memory(rule, lanes)
            start, stride = rng.choice((0, 3, rng.randrange(99), GREAT)), rng.choice((0, 1, rng.randrange(99), GREAT))
            addresses = [start + lane * stride for lane in range(lanes)]
            for address in addresses[::3]:
                memory[address] = address % 97 - 40
            served = memory.load_unit(stride=stride, start=start)
            self.assertEqual(served, Served(tuple(memory[address] for address in addresses), plain_ticks(rule, addresses)))
            self.assertEqual(memory.clock, served.ticks)
            self.assertEqual((memory.undo(), memory.clock), ("load", 0))

    def test_sweeps(self):
        rng = rng_of(212)
        for _ in range(120):
            rule, lanes = random_rule(rng), rng.randint(2, 16)
            memory, model = Memory(rule, lanes), Model(rule, lanes)
            start, stride = rng.choice((0, rng.randrange(99), GREAT)), rng.choice((0, 1, rng.randrange(99), GREAT))
            many = rng.choice((0, 1, lanes, lanes + 1, 3 * lanes - 1, rng.randrange(60)))
            self.assertTrue(same(memory.sweep(start, stride, many), model.sweep(start, stride, many)))
            self.assertEqual(memory.clock, memory.twin().sweep(many=many, stride=stride, start=start))
            self.assertEqual((len(memory), memory.undo(), memory.clock), (1, "sweep", 0))
        memory = Memory(PAD)
        self.assertTrue(same((memory.sweep(5, 5, 0), len(memory), memory.undo()), (0, 1, "sweep")))
        self.assertEqual(memory.sweep(GREAT, GREAT, 2000), Model(PAD).sweep(GREAT, GREAT, 2000))

    def test_wrong_units_and_sweeps(self):
        memory = Memory(PAD)
        for value in without(lambda value: whole(value, 0, GREAT), ANY + [GREAT + 1]):
            error = (BadNumber, {"value": value})
            self.assertTrue(same(told(memory.load_unit, value, None), error))
            self.assertTrue(same(told(memory.load_unit, 1, value), error))
            self.assertTrue(same(told(memory.sweep, value, None, -1), error))
            self.assertTrue(same(told(memory.sweep, 1, value, -1), error))
        for value in without(lambda value: whole(value, 0, 2000), ANY + [2001]):
            self.assertTrue(same(told(memory.sweep, GREAT, GREAT, value), (BadNumber, {"value": value})))
        self.assertEqual(shown(memory), (PAD, 4, 0, 0, []))

    def test_one_tick_just_if_free(self):
        # The Fact: at each start one tick exactly if the stride is free for all starts.
        rng, seen = rng_of(213), []
        for _ in range(400):
            rule, starts = cut_rule(rng)
            lanes, stride = rng.randint(2, 4), rng.randrange(20)
            memory = Memory(rule, lanes)
            ticks = {memory.load_unit(start, stride).ticks for start in range(starts)}
            seen.append(ticks == {1})
            self.assertIs(ticks == {1}, is_free(rule, lanes, stride))
        self.assertGreater(min(seen.count(True), seen.count(False)), 40)


class SwapTest(unittest.TestCase):
    def test_rules_are_swapped(self):
        memory = Memory(PAD)
        memory[4] = 7
        self.assertEqual(memory.load(0, 4).ticks, 1)
        memory.rule = Rule.modulo(4)
        self.assertEqual((memory.rule, memory[4], memory.load(0, 4).ticks, len(memory)), (Rule.modulo(4), 7, 2, 4))
        self.assertIs(memory.swap(rule=PAD), None)
        self.assertEqual((memory.rule, memory.load(0, 4).ticks, memory.clock), (PAD, 1, 4))
        memory.swap(PAD)
        self.assertEqual([memory.undo() for _ in range(len(memory))],
                         ["swap", "load", "swap", "load", "swap", "load", "store"])
        self.assertEqual(shown(memory), (PAD, 4, 0, 0, []))

    def test_wrong_rules(self):
        memory = Memory(PAD)
        for value in without(lambda value: isinstance(value, Rule)):
            self.assertEqual(told(memory.swap, value), (BadMemory, {"part": "rule"}))
            self.assertEqual(told(setattr, memory, "rule", value), (BadMemory, {"part": "rule"}))
        self.assertEqual(shown(memory), (PAD, 4, 0, 0, []))


class UndoTest(unittest.TestCase):
    def test_against_whole_copies(self):
        rng = rng_of(214)
        for _ in range(60):
            rule, lanes = random_rule(rng), rng.randint(3, 6)
            memory, model = Memory(rule, lanes), Model(rule, lanes)
            for _ in range(rng.randint(5, 60)):
                if model.deeds and rng.random() < 0.3:
                    self.assertEqual(memory.undo(), model.undo())
                else:
                    word, values = random_deed(rng)
                    self.assertEqual(getattr(memory, word)(*values), getattr(model, word)(*values))
                self.assertEqual(shown(memory), model.shown())
            while model.deeds:
                self.assertEqual(memory.undo(), model.undo())
                self.assertEqual(shown(memory), model.shown())
            self.assertEqual(told(memory.undo), (Nothing, {}))
            self.assertEqual(shown(memory), (rule, lanes, 0, 0, []))

    def test_deeds_that_change_nothing(self):
        memory = Memory(PAD)
        memory[3] = 0
        memory.load()
        memory.sweep(0, 0, 0)
        memory.swap(PAD)
        memory.load_unit(0, 0)
        memory.store(2, 5)
        memory.store(2, 5)
        self.assertEqual(len(memory), 7)
        words = [memory.undo() for _ in range(2)]
        self.assertEqual((words, memory[2]), (["store"] * 2, 0))
        self.assertEqual([memory.undo() for _ in range(5)], ["load", "swap", "sweep", "load", "store"])
        self.assertEqual((told(memory.undo), told(memory.undo)), ((Nothing, {}), (Nothing, {})))


class TrialTest(unittest.TestCase):
    def stirred(self, rng, memory, model, many):
        """Do some deeds and take some back, in both."""
        for _ in range(many):
            if len(memory) and rng.random() < 0.4:
                self.assertEqual(memory.undo(), model.undo())
            else:
                word, values = random_deed(rng)
                self.assertEqual(getattr(memory, word)(*values), getattr(model, word)(*values))
            self.assertEqual(shown(memory), model.shown())

    def pair(self, rng):
        """A memory and a model with the same deeds."""
        rule = random_rule(rng)
        memory, model = Memory(rule), Model(rule)
        self.stirred(rng, memory, model, rng.randrange(12))
        return memory, model

    def copy_of(self, model):
        """A model that stands as another one."""
        other = Model(model.rule, model.lanes)
        other.held, other.clock, other.deeds = model.held, model.clock, model.deeds
        return other

    def test_blocks(self):
        rng = rng_of(215)
        for _ in range(60):
            memory, model = self.pair(rng)
            before = shown(memory)
            with memory.trial() as same_memory:
                self.assertIs(same_memory, memory)
                self.assertEqual(shown(memory), before)
                self.stirred(rng, memory, self.copy_of(model), 12)
            self.assertEqual(shown(memory), before)
            self.stirred(rng, memory, model, 12)

    def test_blocks_in_blocks(self):
        rng = rng_of(216)
        for _ in range(40):
            memory, model = self.pair(rng)
            before = shown(memory)
            with memory.trial():
                inner = self.copy_of(model)
                self.stirred(rng, memory, inner, 6)
                between = shown(memory)
                with memory.trial() as again:
                    self.assertIs(again, memory)
                    self.stirred(rng, memory, self.copy_of(inner), 6)
                self.assertEqual(shown(memory), between)
                self.stirred(rng, memory, inner, 6)
            self.assertEqual(shown(memory), before)
            self.stirred(rng, memory, model, 6)

    def test_one_block_again(self):
        memory = Memory(PAD)
        block = memory.trial()
        memory[1] = 1
        with block:
            memory[1] = 2
            with block:
                memory[1] = 3
            self.assertEqual(memory[1], 2)
        self.assertEqual((memory[1], len(memory)), (1, 1))
        with block:
            memory.undo()
            self.assertEqual(len(memory), 0)
        self.assertEqual((memory[1], len(memory)), (1, 1))

    def test_all_deeds_taken_back_in_a_block(self):
        memory = Memory(PAD)
        memory[1] = 1
        memory.swap(Rule.modulo(8))
        memory.load(1, 2)
        before = shown(memory)
        with memory.trial():
            self.assertEqual([memory.undo() for _ in range(3)], ["load", "swap", "store"])
            self.assertEqual(told(memory.undo), (Nothing, {}))
            memory[1] = 9
            memory.rule = Rule.modulo(3)
        self.assertEqual(shown(memory), before)
        self.assertEqual([memory.undo() for _ in range(3)], ["load", "swap", "store"])
        self.assertEqual(shown(memory), (PAD, 4, 0, 0, []))

    def test_errors_go_on(self):
        memory = Memory(PAD)
        memory[1] = 1
        before = shown(memory)
        for error in (KeyError, TooMany, KeyboardInterrupt):
            with self.assertRaises(error):
                with memory.trial():
                    with memory.trial():
                        memory[1] = 2
                        raise error("x", 1)
            self.assertEqual(shown(memory), before)

        def work(same_memory):
            same_memory[1] = 5
            same_memory.load(-1)

        self.assertEqual(told(memory.tried, work), (BadNumber, {"value": -1}))
        self.assertEqual(shown(memory), before)

    def test_tried(self):
        memory = Memory(PAD)
        memory[1] = 1
        before, seen = shown(memory), []

        def work(same_memory):
            seen.append(same_memory is memory)
            same_memory[1] = 2
            inner = same_memory.tried(lambda again: (again.undo(), again[1]))
            return inner, same_memory[1], same_memory.load(1).ticks, len(same_memory)

        self.assertEqual(memory.tried(work), (("store", 1), 2, 1, 3))
        self.assertEqual(memory.tried(work=lambda same_memory: None), None)
        self.assertEqual((seen, shown(memory)), ([True], before))


class TwinTest(unittest.TestCase):
    def test_twins_go_their_own_way(self):
        rng = rng_of(217)
        for _ in range(60):
            rule = random_rule(rng)
            memory, model = Memory(rule, 3), Model(rule, 3)
            stir = TrialTest().stirred
            stir(rng, memory, model, rng.randrange(15))
            twin, twin_model = memory.twin(), TrialTest().copy_of(model)
            self.assertIs(type(twin), Memory)
            self.assertEqual(shown(twin), shown(memory))
            stir(rng, twin, twin_model, 10)
            self.assertEqual(shown(memory), model.shown())
            stir(rng, memory, model, 10)
            self.assertEqual(shown(twin), twin_model.shown())
            while len(twin):
                self.assertEqual(twin.undo(), twin_model.undo())
            self.assertEqual(shown(twin), (rule, 3, 0, 0, []))

    def test_twins_in_blocks(self):
        memory = Memory(PAD)
        memory[1] = 1
        with memory.trial():
            memory[2] = 2
            twin = memory.twin()
            twin[3] = 3
        self.assertEqual(list(memory.words()), [(1, 1)])
        self.assertEqual((list(twin.words()), len(twin)), ([(1, 1), (2, 2), (3, 3)], 3))
        with twin.trial():
            memory[9] = 9
        self.assertEqual((memory[9], twin[9]), (9, 0))


class TimeTest(unittest.TestCase):
    def test_long_rows_of_deeds(self):
        begin = time.perf_counter()
        memory = Memory(Rule.xor(5, 4), 16)
        for at in range(20000):
            memory[at * at] = at
        for _ in range(200):
            memory.tried(lambda same_memory: (same_memory.store(1, 2), same_memory.undo(), same_memory.undo()))
            memory.twin().store(3, 4)
        for at in range(50):
            memory.sweep(GREAT - at, at, 2000)
            memory.load_unit(at, GREAT)
        self.assertEqual(len(memory), 20100)
        while len(memory):
            memory.undo()
        self.assertEqual(list(memory.words()), [])
        self.assertLess(time.perf_counter() - begin, 20)


if __name__ == "__main__":
    unittest.main()
