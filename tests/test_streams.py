"""[67]: streams of words one behind the other, and words relayed to other sheets."""

import random
import unittest

from tests import oracle, plaincodes
from tests.examples import ANY_VALUES, BOX, CODES, TREE, SubInt, SubTuple
from tests.plaincodes import EXAMPLE
from tests.test_feeding import UNSOUND, sound_codes
from termsonwires.codes import code_of
from termsonwires.errors import (
    Faulty, InvalidBits, InvalidCode, InvalidMap, InvalidSheet, InvalidStream, InvalidText, NotCarried, UnsoundCode, Unfit)
from termsonwires.faults import faults
from termsonwires.feeding import answer_of, begun, feed
from termsonwires.maps import mapped, turned_map
from termsonwires.reading import read
from termsonwires.streams import fed, is_stream, opened, relayed, stream_of, stream_text
from termsonwires.things import word_of

PUT = ("put", 0)
EMPTY = (("one", (("", (PUT,)),)),)
NONE = (("one", ()),)
FAULTY = ("m", (("m", ("table", ((1, "0"), (2, "0")))),))


def streaming(codes):
    return [code for code in codes if begun(code)[1] is not None]


def plain_events(code, bits):
    """The events by reading again and again; a dead one ends them."""
    events, start = [], 0
    while start < len(bits):
        told = answer_of(code, bits[start:])
        if told[0] == "more":
            break
        if told[0] == "dead":
            return events + [("dead", start + told[1])]
        events.append(("thing", told[1], start + told[2]))
        start += told[2]
    return events


class FedTest(unittest.TestCase):
    def test_pieces_and_words(self):
        """L1, L2, L3."""
        chance, codes = sound_codes(90, 120)
        dead = 0
        for code in streaming(codes):
            words = [(things[0], word) for things, word in plaincodes.rule_words(code, 8)[0]]
            sent = [chance.choice(words) for _ in range(4)]
            bits = "".join(word for _, word in sent)
            stream, events = fed(code, opened(code), bits)
            ends = [len("".join(word for _, word in sent[:k + 1])) for k in range(4)]
            self.assertEqual(events, [("thing", thing, end) for (thing, _), end in zip(sent, ends)])
            self.assertEqual(stream, (4, len(bits), begun(code)[1]))
            bits = bits[:chance.randint(0, len(bits))] + oracle.random_bits(chance, 0, 8)
            stream, events = fed(code, opened(code), bits)
            self.assertEqual(events, plain_events(code, bits))
            self.assertIs(is_stream(code, stream), True)
            if events and events[-1][0] == "dead":
                dead += 1
                self.assertEqual(stream, (len(events) - 1, events[-1][1], ()))
                self.assertEqual(fed(code, stream, "0101"), (stream, []))
            else:
                self.assertEqual(stream[:2], (len(events), len(bits)))
            cut = chance.randint(0, len(bits))
            first, one = fed(code, opened(code), bits[:cut])
            second, two = fed(code, first, bits[cut:])
            self.assertEqual((second, one + two), (stream, events))
            self.assertEqual(stream_of(code, stream_text(code, stream)), stream)
        self.assertGreater(dead, 20)

    def test_sheets(self):
        """L3 by read."""
        for sheet in (TREE, BOX, CODES):
            code = code_of(sheet)
            for bits in oracle.all_bits(8)[60:]:
                events, start = fed(code, opened(code), bits)[1], 0
                for event in events:
                    told = read(sheet, bits, start)
                    self.assertEqual(event, told)
                    start = told[-1]
                self.assertTrue(events and events[-1][0] == "dead" or start == len(bits) or read(sheet, bits, start) == ("more",))

    def test_opened(self):
        for code in (EMPTY, NONE, (("one", (("", (("tuple", (("call", 1),)),)),)), ("many", (("", (PUT, PUT)),)))):
            with self.assertRaises(Unfit):
                opened(code)
        self.assertEqual(opened(EXAMPLE), (0, 0, begun(EXAMPLE)[1]))
        short = (("one", (("0", (PUT,)), ("1", (PUT,)))),)
        self.assertEqual(fed(short, opened(short), "01"), ((2, 2, begun(short)[1]), [("thing", 0, 1), ("thing", 0, 2)]))
        long = (("one", (("0" * 50, (PUT,)),)),)
        self.assertEqual(opened(long), (0, 0, begun(long)[1]))
        for sheet in (("m", (("m", ("width", 0)),)), ("m", (("m", ("table", ())),))):
            with self.assertRaises(Unfit):
                opened(code_of(sheet))

    def test_no_first_held_state(self):
        """Behind a word there may be no held state to go on with."""
        code = (("one", (("", (PUT,)),)), ("one", (("0", (PUT,)),)))
        held = (((("whole",), (), ()),), ("rule", 1, ""))
        self.assertEqual(fed(code, (3, 3, held), "01"), ((4, 4, ()), [("thing", 0, 4)]))
        self.assertEqual(fed(code, (0, 0, held), "1"), ((0, 1, ()), [("dead", 1)]))

    def test_is_stream(self):
        held = feed(EXAMPLE, begun(EXAMPLE)[1], "1")[1]
        good = [(0, 0, held), (0, 1, held), (3, 3, held), (2, 10 ** 50, held), (0, 0, ()), (5, 7, ())]
        bad = ANY_VALUES + [
            (1, 0, held), (0, -1, held), (-1, 0, held), (True, 1, held), (0, True, held), (0, "1", held), (0, 0, None), (0, 0, []), (0, 0, held[0]), (0, 0), (0, 0, held, ()), [0, 0, held], (0, 0, list(held)), SubTuple((0, 0, held)),
            (SubInt(0), 0, held), (0, 0, SubTuple()), (0, 0, (held[0], ("rule", 0, "0")))]
        for value in good:
            self.assertIs(is_stream(EXAMPLE, value), True)
            if value[1] < 10 ** 40:
                self.assertEqual(stream_of(EXAMPLE, stream_text(EXAMPLE, value)), value)
        for value in bad:
            self.assertIs(is_stream(EXAMPLE, value), False)
            for call in (lambda: fed(EXAMPLE, value, None), lambda: stream_text(EXAMPLE, value)):
                with self.assertRaises(InvalidStream):
                    call()
        self.assertIs(is_stream(EMPTY, (0, 0, ())), True)
        self.assertIs(is_stream(NONE, (0, 0, ())), True)

    def test_texts(self):
        stream = fed(EXAMPLE, opened(EXAMPLE), "01")[0]
        text = stream_text(EXAMPLE, stream)
        self.assertEqual(text, "(1,2,(((('whole',),(),(),),(('label','m',),(),(),),(('tuple',),(),(('call',0,),),),),('rule',1,'',),),)")
        self.assertEqual(stream_text(EXAMPLE, (1, 2, ())), "(1,2,(),)")
        self.assertEqual(stream_of(EXAMPLE, "(1,2,(),)"), (1, 2, ()))
        for bad, index in (("", 0), ("(1,2,(),", 8), ("(1,2,())", 7), ("(1,2,(),) ", 9), ("(1, ", 3)):
            with self.assertRaises(InvalidText) as caught:
                stream_of(EXAMPLE, bad)
            self.assertEqual(caught.exception.index, index)
        for bad in ("0", "(2,1,(),)", "(0,0,)", "('0',0,(),)", stream_text(EXAMPLE, stream).replace("label", "lable")):
            with self.assertRaises(InvalidStream):
                stream_of(EXAMPLE, bad)
        for bad in ANY_VALUES:
            if type(bad) is not str:
                with self.assertRaises(InvalidText) as caught:
                    stream_of(EXAMPLE, bad)
                self.assertEqual(caught.exception.index, 0)

    def test_errors_in_their_order(self):
        stream = opened(EXAMPLE)
        for bad in ANY_VALUES:
            for call in (opened, lambda code: fed(code, bad, bad), lambda code: is_stream(code, bad), lambda code: stream_text(code, bad), lambda code: stream_of(code, bad), lambda code: relayed(code, bad, bad, bad, bad)):
                with self.assertRaises(InvalidCode):
                    call(bad)
                with self.assertRaises(UnsoundCode):
                    call(UNSOUND)
            with self.assertRaises(InvalidStream):
                fed(EXAMPLE, bad, bad)
            if type(bad) is not str or bad:
                with self.assertRaises(InvalidBits):
                    fed(EXAMPLE, stream, bad)

    def test_examples(self):
        self.assertEqual(fed(EXAMPLE, opened(EXAMPLE), "0110"), ((2, 4, (((("whole",), (), ()),), ("rule", 0, ""))), [("thing", ("e", ()), 1), ("thing", ("m", (1, ("e", ()))), 4)]))


class RelayTest(unittest.TestCase):
    ONE = ("m", (("m", ("either", (("x", "0", ("width", 2)), ("y", "1", ("bits", "01")), ))),))
    OTHER = ("m", (("m", ("either", (("u", "00", ("row", (("width", 2),))), ("v", "1", ("bits", ""))))),))
    MAP = ("ways", (("x", "u", ("wrap",)), ("y", "v", ("same",))))

    def test_there_and_back(self):
        """L4, in pieces too."""
        code, other_code = code_of(self.ONE), code_of(self.OTHER)
        chance = random.Random(91)
        for _ in range(30):
            things = [chance.choice([("x", chance.randrange(4)), ("y", ())]) for _ in range(4)]
            bits = "".join(word_of(self.ONE, thing) for thing in things)
            stream, out = relayed(code, self.MAP, self.OTHER, opened(code), bits)
            self.assertEqual(out, "".join(word_of(self.OTHER, mapped(self.MAP, thing)) for thing in things))
            self.assertEqual(stream, fed(code, opened(code), bits)[0])
            self.assertEqual(relayed(other_code, turned_map(self.MAP), self.ONE, opened(other_code), out)[1], bits)
            cut = chance.randint(0, len(bits))
            first, one = relayed(code, self.MAP, self.OTHER, opened(code), bits[:cut])
            second, two = relayed(code, self.MAP, self.OTHER, first, bits[cut:])
            self.assertEqual((second, one + two), (stream, out))
        self.assertEqual(relayed(code, self.MAP, self.OTHER, opened(code), ""), (opened(code), ""))

    def test_dead_streams(self):
        three = ("m", (("m", ("table", (("a", "0"), ("b", "10")))),))
        code = code_of(three)
        self.assertEqual(relayed(code, ("same",), three, opened(code), "01011010"), ((2, 5, ()), "010"))
        self.assertEqual(relayed(code, ("same",), three, (2, 5, ()), "010"), ((2, 5, ()), ""))

    def test_not_carried(self):
        code = code_of(self.ONE)
        bits = [word_of(self.ONE, thing) for thing in (("x", 0), ("y", ()), ("x", 3))]
        unfit = ("ways", (("x", "u", ("wrap",)),))
        other = ("ways", (("x", "u", ("table", ((0, (0,)), (3, (4,))))), ("y", "v", ("same",))))
        for mapping, order, number in ((unfit, (0, 2, 1), 2), (unfit, (1,), 0), (other, (0, 1, 2, 2), 2), (other, (1, 1, 2), 2), (("same",), (0,), 0)):
            with self.assertRaises(NotCarried) as caught:
                relayed(code, mapping, self.OTHER, opened(code), "".join(bits[k] for k in order))
            self.assertEqual(caught.exception.number, number)
        stream = fed(code, opened(code), bits[0] + bits[1] + "1")[0]
        with self.assertRaises(NotCarried) as caught:
            relayed(code, unfit, self.OTHER, stream, "01" + bits[0])
        self.assertEqual(caught.exception.number, 0)

    def test_deep_things(self):
        deep = ("m", (("m", ("either", (("x", "0", ("bits", "")), ("y", "1", ("ref", "m"))))),))
        code = code_of(deep)
        bits = "1" * 200 + "0"
        renamed = ("m", (("m", ("either", (("y", "1", ("ref", "m")), ("x", "00", ("bits", ""))))),))
        self.assertEqual(relayed(code, ("same",), renamed, opened(code), bits)[1], bits + "0")

    def test_errors_in_their_order(self):
        code = code_of(self.ONE)
        stream = opened(code)
        for bad in ANY_VALUES:
            with self.assertRaises(InvalidMap):
                relayed(code, bad, bad, bad, bad)
            with self.assertRaises(InvalidSheet):
                relayed(code, self.MAP, bad, bad, bad)
            with self.assertRaises(Faulty):
                relayed(code, self.MAP, FAULTY, bad, bad)
            with self.assertRaises(InvalidMap):
                relayed(code, bad, FAULTY, bad, bad)
            with self.assertRaises(InvalidStream):
                relayed(code, self.MAP, self.OTHER, bad, bad)
            if type(bad) is not str or bad:
                with self.assertRaises(InvalidBits):
                    relayed(code, self.MAP, self.OTHER, stream, bad)


if __name__ == "__main__":
    unittest.main()
