"""[69], [70]: wires, packets and links, against a plain reader of packets that are cut beforehand."""

import random
import unittest

from tests import oracle
from tests.examples import ANY_VALUES, BOX, CODES, EVEN, TREE, SubInt, SubList, SubStr, SubTuple
from termsonwires.codes import code_of
from termsonwires.errors import InvalidBits, InvalidCount, InvalidLink, InvalidPieces, InvalidText, InvalidWire, UnknownLine
from termsonwires.reading import read
from termsonwires.streams import fed, opened
from termsonwires.things import word_of
from termsonwires.wires import feed_link, is_link, is_wire, link_of, link_text, linked, packed, turn_bits, woven

THREE = ("w", (("w", ("width", 3)),))
SIZE = ("width", 2)
WIRE = (SIZE, (("a", "0", THREE), ("b", "1", THREE)))
ODD = ("table", ((0, "110"), (1, "0"), (3, "10")))
FOUR = (ODD, (("a", "00", TREE), ("bb", "01", CODES), ("c", "10", THREE), ("d", "111", EVEN)))
BARE = (("table", ((1, ""),)), (("z", "", TREE),))
ONE = (SIZE, (("one", "", CODES),))
FAULTY = ("m", (("m", ("table", ((1, "0"), (2, "0")))),))
WIRES = [WIRE, FOUR, BARE, ONE]


def size_words(size):
    return oracle.words(("t", (("t", size),)), 60)


def plain_read(wire, bits):
    """The packets (name, piece, where each of its bits ends), and where the wire dies or None; by [69] alone."""
    tags, sizes = {tag: name for name, tag, _ in wire[1]}, {word: n for n, word in size_words(wire[0]).items()}
    at, found = 0, []
    while True:
        steps = []
        for words in (tags, sizes):
            end = at
            while bits[at:end] not in words:
                if not any(word.startswith(bits[at:end]) for word in words):
                    return found, end
                if end == len(bits):
                    return found, None
                end += 1
            steps.append(words[bits[at:end]])
            at = end
        piece = bits[at:at + steps[1]]
        found.append((steps[0], piece, list(range(at + 1, at + 1 + len(piece)))))
        at += len(piece)
        if at >= len(bits):
            return found, None


def plain_events(wire, bits):
    """All events: those of each line's stream by its own bits, told at the bits of the wire."""
    packets, death = plain_read(wire, bits)
    events = []
    for name, _, sheet in wire[1]:
        own = "".join(piece for line, piece, _ in packets if line == name)
        ends = [end for line, _, places in packets if line == name for end in places]
        code = code_of(sheet)
        for event in fed(code, opened(code), own)[1]:
            events.append((name, event, ends[event[-1] - 1]))
    if death is not None:
        events.append(("", ("dead", death), death))
    return sorted(events, key=lambda event: event[2])


def random_pieces(chance, wire, lines=None):
    """Pieces by which things are sent, cut as it comes; the things of each line in their sequence."""
    sizes = [n for n in size_words(wire[0]) if n > 0]
    queues = {}
    for name, _, sheet in wire[1]:
        things = sorted(oracle.words(sheet, 7).values())
        queues[name] = "".join(chance.choice(things) for _ in range(chance.randint(0, 3)))
    pieces = []
    while any(queues.values()):
        name = chance.choice([name for name in queues if queues[name]])
        many = chance.choice([n for n in sizes if n <= len(queues[name])])
        pieces.append((name, queues[name][:many]))
        queues[name] = queues[name][many:]
        if 0 in size_words(wire[0]) and chance.random() < 0.2:
            pieces.append((chance.choice(wire[1])[0], ""))
    return pieces


class WireTest(unittest.TestCase):
    def test_sizes(self):
        lines = (("a", "", THREE),)
        for size in (SIZE, ("width", 1), ("width", 5), ODD, ("table", ((1, ""),)), ("table", ((40, "0"), (1, "1"))), ("checked", ((0, 0, "1"),), ("width", 2)), ("sized", ("table", ((2, "0"),)), ("width", 2)), ("table", ((1, "0" * 80),))):
            self.assertIs(is_wire((size, lines)), True, size)
        for size in (("width", 0), ("width", 6), ("table", ()), ("table", ((0, "0"), (2, "1"))), ("table", ((41, "0"), (1, "1"))), ("table", ((-1, "0"), (1, "1"))), ("table", (("1", "0"),)), ("table", ((1, "0"), (2, "01"))),
                     ("row", (("width", 2),)), ("ref", "a"), ("bits", "0"), ("checked", ((0, 0, "1"),), ("ref", "a")), ("sized", ("width", 7), ("width", 2)), ("sized", ("table", ((1, "0"),)), ("width", 2)), None, "width", ["width", 2], ("width", True)):
            self.assertIs(is_wire((size, lines)), False, size)

    def test_lines(self):
        line = lambda name="a", tag="", sheet=THREE: (SIZE, ((name, tag, sheet),))
        for value in WIRES + [line("a" * 8), line("z"), line("wire"), line("a", "0" * 80), line("a", "", ("m", (("m", ("bits", "0" * 60)),))), (SIZE, (("a", "00", THREE), ("b", "01", THREE), ("c", "10", THREE), ("d", "11", THREE)))]:
            self.assertIs(is_wire(value), True)
        empty, no = ("m", (("m", ("bits", "")),)), ("m", (("m", ("table", ())),))
        two = (("a", "0", THREE), ("b", "1", THREE))
        bad = ANY_VALUES + [
            line(""), line("a" * 9), line("A"), line("a1"), line("a_"), line(1), line(SubStr("a")), line("a", "2"), line("a", 0), line("a", None), line("a", "", FAULTY), line("a", "", empty), line("a", "", no), line("a", "", ("m", (("m", ("row", (("bits", ""),))),))),
            line("a", "", None), line("a", "", THREE[1]), (SIZE, ()), (SIZE, two[::-1]), (SIZE, (two[0], two[0])), (SIZE, (("a", "0", THREE), ("a", "1", THREE))), (SIZE, (("a", "0", THREE), ("b", "0", THREE))), (SIZE, (("a", "0", THREE), ("b", "01", THREE))),
            (SIZE, (("a", "10", THREE), ("b", "1", THREE))), (SIZE, (("a", "", THREE), ("b", "1", THREE))), (SIZE, tuple((name, format(k, "03b"), THREE) for k, name in enumerate("abcde"))), (SIZE, list(two)), (SIZE, (list(two[0]), two[1])),
            [SIZE, two], (SIZE, two, ()), (SIZE,), SubTuple((SIZE, two)), (SIZE, SubTuple(two)), (SIZE, (("a", "0"),)), (SIZE, (("a", "0", THREE, 0),))]
        for value in bad:
            self.assertIs(is_wire(value), False, repr(value)[:80])
            for call in (lambda: packed(value, None), lambda: woven(value, None, None), lambda: turn_bits(value, None, None), lambda: linked(value), lambda: feed_link(value, None, None), lambda: is_link(value, None),
                         lambda: link_text(value, None), lambda: link_of(value, None)):
                with self.assertRaises(InvalidWire):
                    call()


class PackedTest(unittest.TestCase):
    def test_packets(self):
        chance = random.Random(69)
        for wire in WIRES:
            tags, sizes = {name: tag for name, tag, _ in wire[1]}, size_words(wire[0])
            for _ in range(10):
                pieces = random_pieces(chance, wire)
                self.assertEqual(packed(wire, pieces), "".join(tags[name] + sizes[len(bits)] + bits for name, bits in pieces))
        self.assertEqual(packed(WIRE, []), "")
        self.assertEqual(packed(WIRE, [("a", "")]), "000")

    def test_wrong_pieces(self):
        good = ("a", "10")
        for bad in [("c", "10"), ("", "10"), ("a", "1010"), ("a", "2"), ("a", None), ("a",), ("a", "1", "0"), ["a", "10"], None, "a1", (1, "10"), (SubStr("a"), "10"), ("a", SubStr("10")), SubTuple(good), (None, ""), (("a",), "")]:
            for pieces, index in (([bad], 0), ([good, bad], 1), ([good, good, bad, bad], 2)):
                with self.assertRaises(InvalidPieces) as caught:
                    packed(WIRE, pieces)
                self.assertEqual(caught.exception.index, index)
        for bad in [value for value in ANY_VALUES if type(value) is not list] + [(good,), {"a": "1"}, SubList([good])]:
            for call in (lambda: packed(WIRE, bad), lambda: woven(WIRE, bad, None)):
                with self.assertRaises(InvalidPieces) as caught:
                    call()
                self.assertEqual(caught.exception.index, 0)
        with self.assertRaises(InvalidPieces) as caught:
            packed(FOUR, [("a", "1"), ("bb", "10")])
        self.assertEqual(caught.exception.index, 1)

    def test_woven(self):
        """M4."""
        chance = random.Random(70)
        for _ in range(120):
            wire = chance.choice(WIRES)
            sizes = sorted(size_words(wire[0]))
            names = [line[0] for line in wire[1]]
            rows = [(name, oracle.random_bits(chance, 0, 9)) for name in chance.sample(names, chance.randint(0, len(names)))]
            most = chance.choice([1, 2, 3, 4, 60])
            told = woven(wire, rows, most)
            left, expected = dict(rows), []
            while any(left.values()):
                for name, _ in rows:
                    if left[name]:
                        n = max(k for k in sizes if 1 <= k <= most and k <= len(left[name]))
                        expected.append((name, left[name][:n]))
                        left[name] = left[name][n:]
            self.assertEqual(told, expected)
            for name, bits in rows:
                self.assertEqual("".join(piece for line, piece in told if line == name), bits)
            self.check_turns(wire, told, most)

    def check_turns(self, wire, told, most):
        for name in {name for name, _ in told}:
            places = [k for k, (line, _) in enumerate(told) if line == name]
            for one, other in zip(places, places[1:]):
                self.assertLessEqual(len(packed(wire, told[one + 1:other])), turn_bits(wire, name, most))

    def test_wrong_rows(self):
        for bad, index in (([("a", "1"), ("a", "0")], 1), ([("a", "1"), ("b", ""), ("b", "")], 2), ([("c", "1")], 0), ([("a", "1"), None], 1), ([["a", "1"]], 0), ([("a", "2")], 0), ([("a", 1)], 0), ([("a", "1", "")], 0), ([("a", "0" * 99), ("b",)], 1)):
            for most in (1, None, 0):
                with self.assertRaises(InvalidPieces) as caught:
                    woven(WIRE, bad, most)
                self.assertEqual(caught.exception.index, index)
        for most in (0, -1, 61, True, None, "1", SubInt(2)):
            with self.assertRaises(InvalidCount):
                woven(WIRE, [("a", "1")], most)
            with self.assertRaises(InvalidCount):
                turn_bits(WIRE, "a", most)
            for name in ("c", "", None, 1, ("a",), SubStr("a"), [], True):
                with self.assertRaises(UnknownLine) as caught:
                    turn_bits(WIRE, name, most)
                self.assertEqual(caught.exception.name, name)

    def test_turn_bits(self):
        self.assertEqual([turn_bits(WIRE, "a", most) for most in (1, 2, 3, 4, 60)], [4, 5, 6, 6, 6])
        self.assertEqual([turn_bits(ONE, "one", most) for most in (1, 60)], [0, 0])
        self.assertEqual([turn_bits(FOUR, "a", most) for most in (1, 2, 3)], [2 + 2 + 3 + 3 * 2, 2 + 2 + 3 + 3 * 2, 7 + 3 * 5])
        self.assertEqual(turn_bits(FOUR, "d", 3), 6 + 15)
        long = (("table", ((1, "0000"), (3, "1"))), (("a", "0", THREE), ("b", "1", THREE)))
        self.assertEqual([turn_bits(long, "a", most) for most in (1, 2, 3)], [6, 6, 6])


class LinkTest(unittest.TestCase):
    def test_events(self):
        """M1, M2; bits turned, lost and put in as it comes."""
        chance = random.Random(71)
        deaths = 0
        for _ in range(160):
            wire = chance.choice(WIRES)
            bits = packed(wire, random_pieces(chance, wire))
            for _ in range(chance.choice([0, 0, 1, 2])):
                k = chance.randint(0, len(bits))
                bits = bits[:k] + chance.choice(["", "0", "1", "01"]) + bits[k + chance.randint(0, 1):]
            bits = bits[:40]
            link, events = feed_link(wire, linked(wire), bits)
            self.assertEqual(events, plain_events(wire, bits), (wire, bits))
            self.assertIs(is_link(wire, link), True)
            self.assertEqual(link_of(wire, link_text(wire, link)), link)
            deaths += link[1] == ("dead",)
            self.assertEqual(link[0], events[-1][2] if link[1] == ("dead",) else len(bits))
            cut = chance.randint(0, len(bits))
            first, one = feed_link(wire, linked(wire), bits[:cut])
            second, two = feed_link(wire, first, bits[cut:])
            self.assertEqual((second, one + two), (link, events))
        self.assertGreater(deaths, 5)

    def test_readings(self):
        held = opened(code_of(THREE))
        for bits, reading in (("", ("tag", "")), ("0", ("size", "a", "")), ("1", ("size", "b", "")), ("01", ("size", "a", "1")), ("010", ("piece", "a", 2)), ("0101", ("piece", "a", 1)), ("01011", ("tag", "")), ("000", ("tag", "")), ("0000", ("size", "a", ""))):
            link, events = feed_link(WIRE, linked(WIRE), bits)
            self.assertEqual(link[:2], (len(bits), reading))
            self.assertEqual(link[2], (fed(code_of(THREE), held, bits[3:] if reading[0] == "piece" or bits == "01011" else "")[0], held))
        self.assertEqual(linked(WIRE), (0, ("tag", ""), (held, held)))
        self.assertEqual(linked(ONE)[1], ("size", "one", ""))
        self.assertEqual(linked(BARE)[1], ("piece", "z", 1))
        for bits in ("", "0", "0000", "1"):
            self.assertEqual(feed_link(BARE, linked(BARE), bits)[0][1], ("piece", "z", 1))
        self.assertEqual(feed_link(ONE, linked(ONE), "00")[0][1], ("size", "one", ""))

    def test_dead_wire(self):
        link, events = feed_link(FOUR, linked(FOUR), "110" + "0101")
        self.assertEqual((link[:2], events), ((3, ("dead",)), [("", ("dead", 3), 3)]))
        self.assertEqual(feed_link(FOUR, link, "0000"), (link, []))
        link, events = feed_link(FOUR, linked(FOUR), "00" + "0" + "1" + "01" + "111" + "0")
        self.assertEqual((link[:2], events), ((9, ("dead",)), [("", ("dead", 9), 9)]))

    def test_dead_line(self):
        """Bits for a dead line are passed over; other lines go on."""
        wire = (SIZE, (("a", "0", EVEN), ("b", "1", THREE)))
        bits = packed(wire, [("a", "100"), ("b", "10"), ("a", "101"), ("b", "1")])
        link, events = feed_link(wire, linked(wire), bits)
        self.assertEqual(events, [("a", ("dead", 3), 6), ("b", ("thing", 5, 3), len(bits))])
        self.assertEqual(link[2][0], (0, 3, ()))

    def test_turned_bits_stay_apart(self):
        """M3."""
        chance = random.Random(72)
        for _ in range(60):
            wire = chance.choice([WIRE, FOUR])
            pieces = random_pieces(chance, wire)
            line = chance.choice(wire[1])[0]
            turned = [(name, "".join(chance.choice("01") for _ in bits) if name == line else bits) for name, bits in pieces]
            one = feed_link(wire, linked(wire), packed(wire, pieces))[1]
            two = feed_link(wire, linked(wire), packed(wire, turned))[1]
            self.assertEqual([event for event in one if event[0] != line], [event for event in two if event[0] != line])

    def test_is_link(self):
        held = opened(code_of(THREE))
        other = fed(code_of(THREE), held, "01")[0]
        row = lambda reading, streams=(held, held), index=0: (index, reading, streams)
        good = [row(("tag", "")), row(("size", "a", "")), row(("size", "b", "1")), row(("piece", "a", 1)), row(("piece", "b", 3)), row(("dead",)), row(("dead",), (other, (0, 5, ()))), row(("tag", ""), (other, held), 10 ** 30), row(("tag", ""), ((7, 99, ()), other))]
        bad = ANY_VALUES + [
            row(("tag", "0")), row(("tag", "1")), row(("tag", "2")), row(("tag", None)), row(("tag",)), row(("tag", "", "")), row(("size", "a", "00")), row(("size", "a", "11")), row(("size", "c", "")), row(("size", "a")), row(("size", None, "")),
            row(("size", "a", 0)), row(("piece", "a", 0)), row(("piece", "a", 4)), row(("piece", "a", True)), row(("piece", "a", -1)), row(("piece", "", 1)), row(("piece", "a")), row(("piece", "a", "1")), row(("dead", 0)), row(("Tag", "")), row(["tag", ""]), row(("peace", "a", 1)),
            row(None), row(()), row((0, "")), row(("tag", ""), (held,)), row(("tag", ""), (held, held, held)), row(("tag", ""), [held, held]), row(("tag", ""), (held, None)), row(("tag", ""), (held, (1, 0, ()))), row(("tag", ""), (held, held), -1),
            row(("tag", ""), (held, held), True), row(("tag", ""), (held, held), "0"), (0, ("tag", "")), (0, ("tag", ""), (held, held), 0), [0, ("tag", ""), (held, held)], SubTuple(row(("tag", ""))), row(("tag", ""), (held, fed(code_of(TREE), opened(code_of(TREE)), "0")[0])),
            row(SubTuple(("dead",))), row((SubStr("dead"),)), row(("piece", SubStr("a"), 1))]
        for value in good:
            self.assertIs(is_link(WIRE, value), True, value)
            self.assertEqual(link_of(WIRE, link_text(WIRE, value)), value)
        for value in bad:
            self.assertIs(is_link(WIRE, value), False, value)
            for call in (lambda: feed_link(WIRE, value, None), lambda: link_text(WIRE, value)):
                with self.assertRaises(InvalidLink):
                    call()
        streams = linked(FOUR)[2]
        for reading, fits in ((("tag", "0"), True), (("tag", "11"), True), (("tag", "110"), False), (("tag", "00"), False), (("size", "a", "1"), True), (("size", "a", "11"), True), (("size", "a", "0"), False), (("piece", "bb", 3), True), (("piece", "bb", 2), True), (("piece", "bb", 4), False)):
            self.assertIs(is_link(FOUR, (0, reading, streams)), fits)
        for reading, fits in ((("tag", ""), False), (("size", "z", ""), False), (("piece", "z", 1), True), (("piece", "z", 2), False)):
            self.assertIs(is_link(BARE, (0, reading, linked(BARE)[2])), fits)

    def test_texts(self):
        self.assertEqual(link_text(WIRE, linked(WIRE))[:15], "(0,('tag','',),")
        for text, index in (("", 0), ("(0,", 3), (link_text(WIRE, linked(WIRE)) + ")", len(link_text(WIRE, linked(WIRE))))):
            with self.assertRaises(InvalidText) as caught:
                link_of(WIRE, text)
            self.assertEqual(caught.exception.index, index)
        for text in ("0", "()", link_text(WIRE, linked(WIRE)).replace("tag", "gat"), link_text(ONE, linked(ONE))):
            with self.assertRaises(InvalidLink):
                link_of(WIRE, text)
        for bad in ANY_VALUES:
            if type(bad) is not str:
                with self.assertRaises(InvalidText) as caught:
                    link_of(WIRE, bad)
                self.assertEqual(caught.exception.index, 0)

    def test_bits_are_asked_last(self):
        for bad in [value for value in ANY_VALUES if type(value) is not str or value] + ["012"]:
            with self.assertRaises(InvalidBits):
                feed_link(WIRE, linked(WIRE), bad)

    def test_examples(self):
        pieces = woven(WIRE, [("a", "101"), ("b", "010")], 2)
        self.assertEqual([pieces, packed(WIRE, pieces), turn_bits(WIRE, "a", 2)], [[("a", "10"), ("b", "01"), ("a", "1"), ("b", "0")], "010101100100111010", 5])
        self.assertEqual(feed_link(WIRE, linked(WIRE), packed(WIRE, pieces))[1], [("a", ("thing", 5, 3), 14), ("b", ("thing", 2, 3), 18)])


if __name__ == "__main__":
    unittest.main()
