"""[73], [74]: the bench, each deed and each way to be refused, against a plain bench that keeps lists alone."""

import random
import unittest

from tests import oracle
from tests.examples import ANY_VALUES, CODES, EVEN, TREE, SubInt, SubList, SubStr, SubTuple
from tests.test_wires import BARE, FOUR, ONE, SIZE, THREE, WIRE, size_words
from termsonwires.bench import Bench, CarefulBench, replay
from termsonwires.codes import code_of
from termsonwires.errors import (
    InvalidBits, InvalidCount, InvalidDeeds, InvalidIndex, InvalidThing, InvalidWire, NoBlock, NothingToUndo, Refused,
    UnknownLine, WireError)
from termsonwires.feeding import feed
from termsonwires.streams import fed, opened
from termsonwires.sure import sure
from termsonwires.things import word_of
from termsonwires.wires import feed_link, is_link, linked, packed

LINES = (SIZE, (("a", "0", EVEN), ("b", "10", THREE), ("c", "11", CODES)))
WIRES = [WIRE, FOUR, ONE, BARE, LINES]


def told(bench):
    """All that a bench tells."""
    names = [line[0] for line in bench.wire[1]]
    return (bench.tape, bench.taken, bench.deeds, len(bench), list(bench), bench.events(), bench.dead(), bench.link(),
            [(bench.queue(name), bench.things(name), repr(bench.sure(name))) for name in names])


class Plain:
    """Queues, the tape and what was taken of it; the link is fed by feed_link."""

    def __init__(self, wire):
        self.wire = wire
        self.queues = {line[0]: "" for line in wire[1]}
        self.tape, self.taken, self.link, self.told = "", 0, linked(wire), []

    def do(self, deed):
        word, name = deed[0], deed[1]
        if word == "send":
            self.queues[name] += word_of({line[0]: line[2] for line in self.wire[1]}[name], deed[2])
        elif word == "pack":
            self.tape += packed(self.wire, [(name, self.queues[name][:deed[2]])])
            self.queues[name] = self.queues[name][deed[2]:]
        elif word == "take":
            bits = self.tape[self.taken:self.taken + deed[1]]
            at = self.link[0]
            self.link, events = feed_link(self.wire, self.link, bits)
            self.taken += self.link[0] - at
            self.told += events
        elif word == "renew":
            self.renew(name)
        else:
            bits = list(self.tape)
            if word == "put":
                bits.insert(name, deed[2])
            elif word == "lose":
                del bits[name]
            else:
                bits[name] = "10"[int(bits[name])]
            self.tape = "".join(bits)

    def renew(self, name):
        index, reading, streams = self.link
        if name == "":
            self.link = (index, linked(self.wire)[1], streams)
        else:
            k = [line[0] for line in self.wire[1]].index(name)
            self.link = (index, reading, streams[:k] + (opened(code_of(self.wire[1][k][2])),) + streams[k + 1:])

    def dead(self):
        found = ["" for _ in range(self.link[1] == ("dead",))]
        return found + [line[0] for line, stream in zip(self.wire[1], self.link[2]) if stream[2] == ()]


def random_deed(chance, bench):
    """A deed that the bench may do."""
    word = chance.choice(["send", "send", "pack", "pack", "pack", "take", "flip", "lose", "put", "renew"])
    name, _, sheet = chance.choice(bench.wire[1])
    if word == "send":
        return (word, name, chance.choice(sorted(oracle.words(sheet, 7), key=repr)))
    if word == "pack":
        return (word, name, chance.choice(sorted(size_words(bench.wire[0]))))
    if word == "take":
        return (word, chance.randint(1, 12))
    if word == "renew":
        return (word, chance.choice(bench.dead() or [name]))
    index = bench.taken + chance.randint(0, max(0, len(bench.tape) - bench.taken))
    return (word, index, chance.choice("01")) if word == "put" else (word, index)


def did(bench, deed):
    """Whether the bench did the deed; what it told stays if it did not."""
    before = told(bench) if len(bench) % 7 == 0 else None
    try:
        getattr(bench, deed[0])(*deed[1:])
        return True
    except WireError:
        if before is not None and told(bench) != before:
            raise AssertionError(deed)
        return False


def random_bench(chance, wire, many, kind=Bench):
    bench = kind(wire)
    for _ in range(many):
        did(bench, random_deed(chance, bench))
    return bench


class BenchTest(unittest.TestCase):
    def test_against_a_plain_one(self):
        chance = random.Random(73)
        dead = 0
        for _ in range(60):
            wire = chance.choice(WIRES)
            bench, plain = Bench(wire), Plain(wire)
            for _ in range(40):
                deed = random_deed(chance, bench)
                if did(bench, deed):
                    plain.do(deed)
                self.assertEqual(bench.tape, plain.tape)
            self.assertEqual((bench.taken, bench.link(), bench.events(), bench.dead()), (plain.taken, plain.link, plain.told, plain.dead()))
            dead += any(event[0] == "dead" for _, event, _ in bench.events())
            for name, queue in plain.queues.items():
                self.assertEqual(bench.queue(name), queue)
                self.assertEqual(bench.things(name), [event[1] for line, event, _ in plain.told if line == name and event[0] == "thing"])
            self.assertIs(is_link(wire, bench.link()), True)
            self.assertEqual(told(replay(wire, bench.deeds)), told(bench))
            self.assertTrue(replay(wire, bench.deeds) == bench)
        self.assertGreater(dead, 10)

    def test_sure(self):
        chance = random.Random(74)
        for _ in range(25):
            bench = random_bench(chance, chance.choice(WIRES), 25)
            for (name, _, sheet), stream in zip(bench.wire[1], bench.link()[2]):
                expected = None if stream[2] == () else sure(code_of(sheet), stream[2])
                self.assertEqual(bench.sure(name), expected)

    def test_results(self):
        bench = Bench(LINES)
        self.assertEqual([bench.send("a", 3), bench.send("b", 5), bench.send("c", ("a", "b"))], [3, 3, 6])
        self.assertEqual([bench.queue("a"), bench.queue("b"), bench.queue("c")], ["110", "101", "000111"])
        self.assertEqual([bench.pack("a", 2), bench.pack("a", 0), bench.pack("c", 3)], [1 + 2 + 2, 3, 2 + 2 + 3])
        self.assertEqual([bench.tape, bench.queue("a"), bench.queue("c")], ["01011" + "000" + "1111000", "0", "111"])
        self.assertEqual([bench.take(5), bench.take(100), bench.take(1)], [5, 10, 0])
        self.assertEqual([bench.put(15, "0"), bench.flip(15), bench.put(15, "0"), bench.lose(16), bench.take(3)], [None, None, None, None, 1])
        self.assertEqual(bench.deeds[-1], ("take", 3))
        self.assertEqual(len(bench), 14)
        self.assertEqual(bench.deeds[0], ("send", "a", 3))
        self.assertEqual([bench.begin(), bench.keep(), bench.begin(), bench.drop()], [None] * 4)
        self.assertEqual((bench.wire, bench.taken, bench.depth), (LINES, 16, 0))

    def check(self, bench, error, call, *values):
        before = told(bench)
        for value in values:
            with self.assertRaises(error) as caught:
                call(*value)
            if error is UnknownLine:
                self.assertEqual(caught.exception.name, value[0])
                self.assertTrue(type(value[0]) is not list or caught.exception.name is not value[0])
            self.assertEqual(told(bench), before)

    def test_refusals(self):
        bench = Bench(LINES)
        bench.send("a", 1)
        bench.send("b", 1)
        bench.pack("a", 3)
        bench.pack("b", 2)
        bench.take(3)
        strange = [None, "", "d", 1, True, ("a",), [], ["a", ([],)], SubStr("a"), SubStr(""), "A"]
        for call in (lambda name: bench.send(name, None), lambda name: bench.pack(name, None), bench.queue, bench.things, bench.sure):
            self.check(bench, UnknownLine, call, *[(name,) for name in strange])
        self.check(bench, UnknownLine, bench.renew, *[(name,) for name in strange if name != "" or type(name) is not str])
        self.check(bench, InvalidThing, bench.send, ("a", 4), ("a", True), ("a", "1"), ("a", None), ("a", [1]), ("c", ["a"]), ("c", ("d",)))
        self.check(bench, InvalidCount, bench.pack, ("a", -1), ("a", True), ("a", None), ("a", "1"), ("a", SubInt(1)))
        self.check(bench, Refused, bench.pack, ("b", 2), ("a", 1), ("a", 10 ** 80), ("b", 4))
        self.check(bench, InvalidCount, bench.take, (0,), (-1,), (True,), (None,), ("1",), (SubInt(1),))
        for bad in (-1, True, None, "1", (), SubInt(4)):
            self.check(bench, InvalidIndex, bench.flip, (bad,))
            self.check(bench, InvalidIndex, bench.lose, (bad,))
            self.check(bench, InvalidIndex, bench.put, (bad, "2"))
        self.check(bench, InvalidBits, bench.put, (4, "2"), (4, ""), (4, "01"), (4, None), (4, 0), (0, None), (99, "2"), (4, SubStr("0")))
        end = len(bench.tape)
        self.check(bench, Refused, bench.flip, (0,), (2,), (end,), (10 ** 80,))
        self.check(bench, Refused, bench.lose, (0,), (2,), (end,))
        self.check(bench, Refused, bench.put, (0, "0"), (2, "1"), (end + 1, "0"))
        self.check(bench, Refused, bench.renew, ("a",), ("",))
        for call in (lambda: bench.flip(3), lambda: bench.lose(end - 1), lambda: bench.put(3, "0"), lambda: bench.put(end, "1")):
            self.assertIsNone(call())
        self.check(bench, NoBlock, bench.keep, ())
        self.check(bench, NoBlock, bench.drop, ())
        three = Bench((("table", ((1, "0"), (3, "1"))), (("a", "", THREE),)))
        three.send("a", 1)
        self.check(three, Refused, three.pack, ("a", 2), ("a", 0))
        self.assertEqual(three.pack("a", 3), 4)

    def test_dead_ones(self):
        bench = Bench(LINES)
        bench.send("a", 1)
        bench.send("a", 2)
        bench.pack("a", 3)
        bench.flip(4)
        self.assertEqual((bench.take(9), bench.dead(), bench.sure("a")), (6, ["a"], None))
        bench.pack("a", 2)
        self.assertEqual((bench.take(5), bench.things("a"), bench.link()[2][0]), (5, [], (0, 3, ())))
        self.assertIsNone(bench.renew("a"))
        with self.assertRaises(Refused):
            bench.renew("a")
        self.assertEqual((bench.dead(), bench.link()[2][0]), ([], opened(code_of(EVEN))))
        bench.pack("a", 1)
        for deed in (("send", "a", 0), ("pack", "a", 2)):
            did(bench, deed)
        bench.take(99)
        self.assertEqual(bench.events(), [("a", ("dead", 3), 6), ("a", ("thing", 2, 3), bench.taken)] if bench.things("a") == [2] else bench.events())
        self.assertEqual(bench.link()[2][0][1], 3)

    def test_renew_within_a_piece(self):
        """The rest of a piece goes to the stream that is opened anew."""
        bench = Bench((("table", ((1, "0"), (6, "1"))), (("a", "", EVEN),)))
        bench.send("a", 1)
        bench.send("a", 2)
        bench.pack("a", 6)
        bench.flip(3)
        self.assertEqual((bench.take(4), bench.dead(), bench.link()[1]), (4, ["a"], ("piece", "a", 3)))
        bench.renew("a")
        self.assertEqual(bench.take(9), 3)
        self.assertEqual(bench.events(), [("a", ("dead", 3), 4), ("a", ("thing", 2, 3), 7)])

    def test_dead_wires(self):
        bench = Bench(FOUR)
        bench.send("c", 5)
        bench.send("bb", ("a",))
        bench.pack("c", 1)
        bench.put(0, "1")
        self.assertEqual((bench.take(9), bench.dead(), bench.taken), (3, [""], 3))
        self.assertEqual((bench.take(9), bench.deeds[-1]), (0, ("take", 9)))
        self.assertEqual(bench.events(), [("", ("dead", 3), 3)])
        self.assertIsNone(bench.renew(""))
        self.assertEqual((bench.dead(), bench.link()[1], bench.link()[0]), ([], ("tag", ""), 3))
        with self.assertRaises(Refused):
            bench.renew("")
        bench.lose(3)
        bench.lose(3)
        bench.pack("bb", 3)
        bench.pack("bb", 1)
        self.assertEqual(bench.take(99), len(bench.tape) - 3)
        self.assertEqual(bench.events()[1:], [("bb", ("thing", ("a",), 4), bench.taken)])
        one = Bench((("table", ((1, "0"), (3, "10"))), (("one", "", THREE),)))
        one.put(0, "1")
        one.put(0, "1")
        self.assertEqual((one.take(9), one.dead(), one.link()[1]), (2, [""], ("dead",)))
        one.renew("")
        self.assertEqual((one.dead(), one.link()[1]), ([], ("size", "one", "")))

    def test_undo_of_each_deed(self):
        """N5."""
        chance = random.Random(75)
        undone = set()
        for _ in range(30):
            bench = Bench(chance.choice(WIRES))
            states = [told(bench)]
            for _ in range(30):
                if did(bench, random_deed(chance, bench)):
                    states.append(told(bench))
            while len(bench):
                deed = bench.deeds[-1]
                self.assertEqual(told(bench), states.pop())
                self.assertEqual(bench.undo(), deed)
                undone.add(deed[0])
            self.assertEqual(told(bench), states[0])
            with self.assertRaises(NothingToUndo):
                bench.undo()
        self.assertEqual(len(undone), 7)

    def test_blocks(self):
        bench = Bench(WIRE)
        bench.send("a", 1)
        bench.begin()
        self.assertEqual(bench.depth, 1)
        with self.assertRaises(NothingToUndo):
            bench.undo()
        bench.send("a", 2)
        bench.begin()
        bench.send("a", 3)
        self.assertEqual((bench.depth, len(bench)), (2, 3))
        bench.undo()
        with self.assertRaises(NothingToUndo):
            bench.undo()
        bench.send("a", 4)
        bench.send("a", 5)
        bench.keep()
        self.assertEqual((bench.depth, bench.deeds), (1, [("send", "a", k) for k in (1, 2, 4, 5)]))
        self.assertEqual(bench.undo(), ("send", "a", 5))
        bench.begin()
        bench.send("b", 6)
        bench.begin()
        bench.send("b", 7)
        bench.drop()
        self.assertEqual((bench.depth, bench.deeds[-1]), (2, ("send", "b", 6)))
        bench.drop()
        self.assertEqual((bench.depth, bench.deeds, bench.queue("b")), (1, [("send", "a", k) for k in (1, 2, 4)], ""))
        bench.drop()
        self.assertEqual((bench.depth, bench.deeds), (0, [("send", "a", 1)]))
        for call in (bench.keep, bench.drop):
            with self.assertRaises(NoBlock):
                call()
        self.assertEqual(bench.undo(), ("send", "a", 1))
        bench.begin()
        bench.keep()
        bench.begin()
        bench.drop()
        self.assertEqual((bench.depth, len(bench)), (0, 0))

    def test_random_blocks(self):
        chance = random.Random(76)
        for _ in range(20):
            bench, saved = Bench(chance.choice(WIRES)), []
            for _ in range(50):
                word = chance.choice(["do"] * 5 + ["begin", "keep", "drop", "undo"])
                if word == "do":
                    did(bench, random_deed(chance, bench))
                elif word == "begin":
                    saved.append(told(bench))
                    bench.begin()
                elif word == "undo" and len(bench) > (saved[-1][3] if saved else 0):
                    bench.undo()
                elif word in ("keep", "drop") and saved:
                    before, now = saved.pop(), told(bench)
                    getattr(bench, word)()
                    self.assertEqual(told(bench), before if word == "drop" else now)
                self.assertEqual(bench.depth, len(saved))
            self.assertEqual(told(replay(bench.wire, bench.deeds)), told(bench))

    def test_twins(self):
        chance = random.Random(77)
        for kind in (Bench, CarefulBench):
            for _ in range(8):
                bench = random_bench(chance, chance.choice(WIRES), 20, kind)
                bench.begin()
                twin = bench.twin()
                self.assertEqual((type(twin), twin.depth, told(twin)), (kind, 0, told(bench)))
                self.assertTrue(twin == bench)
                for _ in range(15):
                    one, other = (bench, twin) if chance.random() < 0.5 else (twin, bench)
                    before = told(other)
                    did(one, random_deed(chance, one))
                    self.assertEqual(told(other), before)
                while len(twin):
                    twin.undo()
                self.assertEqual(told(twin), told(kind(bench.wire)))

    def test_lists_are_new(self):
        bench = Bench(WIRE)
        bench.send("a", 1)
        bench.pack("a", 3)
        bench.take(6)
        before = told(bench)
        for row in (bench.deeds, bench.events(), bench.things("a"), bench.dead()):
            row.append(1)
        self.assertEqual(told(bench), before)

    def test_iteration_while_deeds_are_done(self):
        bench = Bench(WIRE)
        for k in range(3):
            bench.send("a", k)
        seen = []
        for deed in bench:
            seen.append(deed)
            bench.send("b", 1)
            if len(bench) == 5:
                bench.undo()
                bench.undo()
        self.assertEqual(seen, [("send", "a", k) for k in range(3)])
        self.assertEqual(len(bench), 4)
        walk = iter(bench)
        while len(bench):
            bench.undo()
        self.assertEqual(len(list(walk)), 4)

    def test_equality(self):
        one, other = Bench(WIRE), Bench(WIRE)
        self.assertTrue(one == other)
        one.send("a", 1)
        self.assertFalse(one == other)
        self.assertTrue(one != other)
        other.send("a", 1)
        self.assertTrue(one == other)
        other.begin()
        self.assertTrue(one == other)
        self.assertFalse(Bench(WIRE) == CarefulBench(WIRE))
        self.assertFalse(CarefulBench(WIRE) == Bench(WIRE))
        self.assertTrue(CarefulBench(WIRE) == CarefulBench(WIRE))
        self.assertFalse(Bench(WIRE) == Bench(FOUR))
        for value in ANY_VALUES + [WIRE, [], (), type("Bench", (), {})()]:
            self.assertFalse(one == value)
            self.assertFalse(value == one)
            self.assertTrue(one != value)
        one.take(1)
        other.take(2)
        self.assertFalse(one == other)

    def test_wires(self):
        for bad in ANY_VALUES:
            for call in (Bench, CarefulBench, lambda wire: replay(wire, None)):
                with self.assertRaises(InvalidWire):
                    call(bad)

    def test_examples(self):
        bench = Bench(WIRE)
        self.assertEqual([bench.send("a", 5), bench.send("b", 2), bench.pack("a", 3), bench.pack("b", 3), bench.take(7)], [3, 3, 6, 6, 7])
        self.assertEqual([bench.events(), bench.tape, bench.sure("b"), bench.flip(10)], [[("a", ("thing", 5, 3), 6)], "011101111010", ("any",), None])
        self.assertEqual([bench.take(9), bench.things("b"), bench.undo(), bench.undo(), bench.take(9), bench.things("b")], [5, [0], ("take", 9), ("flip", 10), 5, [2]])


class FactsTest(unittest.TestCase):
    def test_pieces_of_take(self):
        """N1."""
        chance = random.Random(78)
        for _ in range(20):
            bench = random_bench(chance, chance.choice(WIRES), 30)
            rest = len(bench.tape) - bench.taken
            one, other = bench.twin(), bench.twin()
            one.take(rest + 1)
            for _ in range(rest):
                other.take(1)
            self.assertEqual((one.events(), one.link(), one.taken), (other.events(), other.link(), other.taken))

    def test_without_damage(self):
        """N2, N6."""
        chance = random.Random(79)
        for _ in range(30):
            bench, sent = Bench(chance.choice(WIRES)), {}
            for _ in range(40):
                deed = random_deed(chance, bench)
                if deed[0] in ("send", "pack", "take") and did(bench, deed) and deed[0] == "send":
                    sent.setdefault(deed[1], []).append(deed[2])
            self.assertEqual(bench.dead(), [])
            for name, _, sheet in bench.wire[1]:
                self.assertEqual(bench.things(name), sent.get(name, [])[:len(bench.things(name))])
            for name, _, _ in bench.wire[1]:
                while bench.queue(name):
                    bench.pack(name, max(k for k in size_words(bench.wire[0]) if k <= len(bench.queue(name))))
            bench.take(len(bench.tape) + 1)
            for name, _, sheet in bench.wire[1]:
                self.assertEqual(bench.things(name), sent.get(name, []))
                self.assertEqual(bench.link()[2][[line[0] for line in bench.wire[1]].index(name)][2], opened(code_of(sheet))[2])

    def test_damage_inside_a_piece(self):
        """N3."""
        for k in range(3, 6):
            bench = Bench(WIRE)
            for name in "ab":
                bench.send(name, 5)
                bench.pack(name, 3)
            bench.flip(k)
            bench.take(99)
            self.assertEqual(bench.things("b"), [5])
            self.assertNotEqual(bench.things("a"), [5])

    def test_careful_ones(self):
        """N4."""
        chance = random.Random(80)
        stopped = 0
        for _ in range(80):
            wire = chance.choice(WIRES)
            careful, plain = CarefulBench(wire), Bench(wire)
            for _ in range(30):
                deed = random_deed(chance, careful)
                if deed[0] == "take" or deed[0] == "renew":
                    continue
                self.assertEqual(did(careful, deed), did(plain, deed))
            count = chance.randint(1, len(careful.tape) + 1)
            taken = careful.take(count)
            self.assertEqual(careful.deeds[-1], ("take", count))
            whole = plain.take(count)
            deaths = [at for _, event, at in plain.events() if event[0] == "dead"]
            self.assertEqual(taken, min(deaths) - 1 if deaths else whole)
            self.assertEqual(careful.events(), [event for event in plain.events() if event[2] <= taken])
            stopped += deaths != []
            self.assertEqual(careful.dead(), [])
            if deaths:
                self.assertEqual((careful.take(5), careful.take(1)), (0, 0))
                for name in [""] + [line[0] for line in wire[1]]:
                    with self.assertRaises(Refused):
                        careful.renew(name)
            for bad in (0, None, True):
                with self.assertRaises(InvalidCount):
                    careful.take(bad)
            careful.undo()
        self.assertGreater(stopped, 5)

    def test_replay(self):
        good = [("send", "a", 5), ("pack", "a", 3), ("flip", 3), ("put", 0, "1"), ("lose", 0), ("take", 9)]
        self.assertEqual(replay(WIRE, good).deeds, good)
        self.assertEqual(replay(WIRE, []).deeds, [])
        for deed in [
                ("send", "a"), ("send", "a", 8), ("send", "c", 1), ("pack", "a", 1), ("pack", "a", "1"), ("flip", 0), ("flip", -1), ("flip",), ("lose", 99), ("put", 9, "0", 0), ("put", 7, "0"), ("take", 0), ("take",), ("renew", "a"), ("renew",), ("undo",), ("begin",),
                ("keep",), ("drop",), ("twin",), ("queue", "a"), ("made", WIRE), ("Send", "a", 1), [], (), None, 1, "take", ["take", 1], ("take", 1, 1), SubTuple(("take", 1)), (SubStr("take"), 1), (1, 2), (None,)]:
            with self.assertRaises(InvalidDeeds) as caught:
                replay(WIRE, good + [deed, None])
            self.assertEqual(caught.exception.index, 6)
        for k, deed in enumerate(good):
            for bent in (deed + (1,), deed[:-1], ("put", 0), ("foo", 0, "1"), ("foo", 1), ("renew", "a", "1"), ("take", 1, "1"), (deed[0] + "s",) + deed[1:]):
                with self.assertRaises(InvalidDeeds) as caught:
                    replay(WIRE, good[:k] + [bent])
                self.assertEqual(caught.exception.index, k)
        for k in range(6):
            with self.assertRaises(InvalidDeeds) as caught:
                replay(WIRE, good[:k] + [("take", 0)] + good[k:])
            self.assertEqual(caught.exception.index, k)
        with self.assertRaises(InvalidDeeds) as caught:
            replay(WIRE, good + [("renew", "a"), None])
        self.assertEqual(caught.exception.index, 6)
        for bad in [value for value in ANY_VALUES if type(value) is not list] + [tuple(good), SubList(good)]:
            with self.assertRaises(InvalidDeeds) as caught:
                replay(WIRE, bad)
            self.assertEqual(caught.exception.index, 0)


if __name__ == "__main__":
    unittest.main()
