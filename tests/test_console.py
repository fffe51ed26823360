"""[75]: commands as texts and their answers; commands that are none; the errors in their order."""

import random
import unittest

from tests.examples import ANY_VALUES, EVEN, TREE, SubStr
from tests.test_bench import did, random_deed
from tests.test_heldtexts import plain_text
from tests.test_wires import BARE, FOUR, ONE, SIZE, THREE, WIRE
from termsonwires.bench import Bench
from termsonwires.console import Console
from termsonwires.errors import (
    InvalidBits, InvalidCommand, InvalidCount, InvalidIndex, InvalidText, InvalidThing, InvalidWire, NoBlock, NothingToUndo, NotReady,
    Refused, UnknownLine)

FIRST = "wire " + plain_text(WIRE)


def ready(wire=WIRE):
    console = Console()
    console.execute("wire " + plain_text(wire))
    return console


def answers(console, *commands):
    return [console.execute(command) for command in commands]


class ConsoleTest(unittest.TestCase):
    def test_each_command(self):
        console = Console()
        self.assertEqual(answers(console, FIRST, "where", "tape", "dead", "queue a", "things a", "sure a"), ["ok", "0 0 0", "none", "none", "none", "none", "('any',)"])
        self.assertEqual(answers(console, "send a 5", "send b 2", "queue a", "pack a 2", "pack a 1", "pack b 3", "queue a", "tape"), ["3", "3", "101", "5", "4", "6", "none", "010" + "10" + "0011" + "111010"])
        self.assertEqual(answers(console, "take 9", "tape", "things a", "things b", "where"), ["9", "111010", "5", "none", "9 15 6"])
        self.assertEqual(answers(console, "flip 9", "tape", "undo", "lose 14", "put 14 0", "put 15 1", "tape"), ["ok", "011010", "flip", "ok", "ok", "ok", "1110101"])
        self.assertEqual(answers(console, "begin", "take 99", "things b", "drop", "things b", "begin", "take 1", "keep", "undo"), ["ok", "7", "2", "ok", "none", "ok", "1", "ok", "take"])
        self.assertEqual(answers(console, "take 7", "things b", "send a 7", "pack a 0"), ["7", "2", "3", "3"])
        self.assertEqual(console.execute("tape"), "000")

    def test_undo_names_the_deed(self):
        console = ready((SIZE, (("a", "", EVEN),)))
        for command in ("send a 1", "send a 2", "pack a 3", "pack a 3", "flip 4", "lose 9", "put 9 1", "take 9", "renew a"):
            console.execute(command)
        self.assertEqual(answers(console, *["undo"] * 9), ["renew", "take", "put", "lose", "flip", "pack", "pack", "send", "send"])

    def test_dead_and_renew(self):
        wire = (("table", ((1, "0"), (3, "10"))), (("wire", "00", EVEN), ("zz", "01", THREE)))
        console = ready(wire)
        answers(console, "send wire 1", "pack wire 3", "flip 4", "take 9")
        self.assertEqual(answers(console, "dead", "sure wire", "sure zz", "renew wire", "dead", "sure wire"), ["wire", "dead", "('any',)", "ok", "none", "('any',)"])
        answers(console, "put 7 1", "send wire 3", "pack wire 3", "take 1")
        self.assertEqual(answers(console, "dead"), ["wire"])
        with self.assertRaises(Refused):
            console.execute("renew wire")
        self.assertEqual(answers(console, "renew", "dead", "where"), ["ok", "none", "8 15 10"])
        both = ready(wire)
        answers(both, "send wire 1", "pack wire 3", "flip 4", "take 9", "put 7 1", "take 9")
        self.assertEqual(both.execute("dead"), "wire wire")

    def test_value_texts(self):
        console = ready((SIZE, (("t", "", TREE),)))
        thing = ("node", (("leaf", 1), ("leaf", 2)))
        self.assertEqual(answers(console, "send t " + plain_text(thing), "send t ('leaf',3,)", "pack t 3", "pack t 3", "pack t 3", "take 99", "things t", "sure t"), [
            "7", "3", "5", "5", "5", "15", plain_text(thing), "('tuple',(('is','leaf',),('any',),),)"])
        self.assertEqual(answers(console, "pack t 1", "take 9", "things t"), ["3", "3", plain_text(thing) + " ('leaf',3,)"])
        self.assertEqual(console.execute("sure t"), "('tuple',(('any',),('any',),),)")

    def test_deep_values(self):
        chain = ("m", (("m", ("either", (("x", "0", ("bits", "")), ("y", "1", ("ref", "m"))))),))
        console = ready((("table", ((1, "0"), (40, "1"))), (("m", "", chain),)))
        thing = ("x", ())
        for _ in range(180):
            thing = ("y", thing)
        self.assertEqual(console.execute("send m " + plain_text(thing)), "181")
        for _ in range(4):
            console.execute("pack m 40")
        console.execute("take 999")
        form = plain_text(("tuple", (("any",), ("begins", ()))))
        for _ in range(160):
            form = "('tuple',(('is','y',)," + form + ",),)"
        self.assertEqual(console.execute("sure m"), form)
        for _ in range(21):
            console.execute("pack m 1")
        console.execute("take 999")
        self.assertEqual(console.execute("things m"), plain_text(thing))

    def test_what_is_no_command(self):
        for console in (Console(), ready()):
            for bad in ANY_VALUES + [
                    "wire", "wires x", " wire x", "Wire x", "send", "send a", "send  a 1", "send A 1", "send a1 1", "send abcdefghi 1", "send a_b 1", "pack", "pack a", "pack a ", "pack a 01", "pack a 12345", "pack a -1", "pack a +1", "pack a 1 ", "pack  a 1",
                    "pack a  1", "pack a 1 1", "pack 1 a", "pack A 1", "take", "take ", "take 00", "take 10000", "take 1 ", " take 1", "take  1", "take a", "take 1.", "take \u0661", "flip", "flip 05", "flip a", "flip 1 2", "lose", "lose 99999", "lose -1", "put", "put 1",
                    "put 1 2", "put 1 01", "put 1 ", "put 1  0", "put 01 0", "put 1 0 ", "renew ", "renew  a", "renew a b", "renew A", "renew abcdefghi", "renew 1", "begin ", "begin 1", "keep ", "drop x", "undo ", "undo 1", "tape ", "tape 1", "queue", "queue ", "queue a b", "queue A",
                    "things", "things  a", "dead ", "dead a", "sure", "sure 1", "sure a ", "where ", "where 1", "twin", "events", "link", "", " ", "wheres", "tape\n", "take 1\n", "take\t1", SubStr("where"), "WHERE", b"where", "put 1 0\n", "queue \u00e4"]:
                with self.assertRaises(InvalidCommand):
                    console.execute(bad)

    def test_not_ready(self):
        for command in ("flip 0", "lose 9999", "put 0 1", "renew a", "renew", "begin", "keep", "drop", "send a ", "send a x", "pack a 0", "take 0", "undo", "tape", "queue zzzzzzzz", "things a", "dead", "sure a", "where"):
            console = Console()
            with self.assertRaises(NotReady):
                console.execute(command)
            with self.assertRaises(InvalidText):
                console.execute("wire ")
            with self.assertRaises(NotReady):
                console.execute(command)

    def test_wires(self):
        console = Console()
        for text, index in (("", 0), (" ", 0), ("(", 1), ("(1,2)", 4), (plain_text(WIRE)[:-1], len(plain_text(WIRE)) - 1), (plain_text(WIRE) + " ", len(plain_text(WIRE))), ("x", 0), ("(\n", 1)):
            with self.assertRaises(InvalidText) as caught:
                console.execute("wire " + text)
            self.assertEqual(caught.exception.index, index)
        for text in ("0", "()", "''", plain_text(WIRE[:1]), plain_text((SIZE, ()))):
            with self.assertRaises(InvalidWire):
                console.execute("wire " + text)
        for wire in (WIRE, FOUR, ONE, BARE):
            self.assertEqual(answers(console, "wire " + plain_text(wire), "where"), ["ok", "0 0 0"])

    def test_a_new_wire_forgets_all(self):
        console = ready()
        answers(console, "send a 1", "pack a 3", "begin")
        for text in ("", "0"):
            with self.assertRaises((InvalidText, InvalidWire)):
                console.execute("wire " + text)
        self.assertEqual(answers(console, "where", "tape"), ["0 6 2", "011001"])
        self.assertEqual(answers(console, FIRST, "where", "queue a"), ["ok", "0 0 0", "none"])
        with self.assertRaises(NoBlock):
            console.execute("keep")

    def test_errors_of_the_methods(self):
        console = ready()
        answers(console, "send a 5", "pack a 3", "take 2")
        for command, error in (
                ("flip 1", Refused), ("flip 6", Refused), ("lose 9999", Refused), ("put 7 0", Refused), ("put 1 1", Refused), ("renew", Refused), ("renew a", Refused), ("renew c", UnknownLine), ("keep", NoBlock), ("drop", NoBlock), ("send c 1", UnknownLine),
                ("send c x", InvalidText), ("send a 8", InvalidThing), ("send a '5'", InvalidThing), ("send a ", InvalidText), ("send a 05", InvalidText), ("send a  5", InvalidText), ("send a 5 ", InvalidText), ("pack a 1", Refused), ("pack c 1", UnknownLine), ("pack a 9999", Refused),
                ("take 0", InvalidCount), ("queue c", UnknownLine), ("things c", UnknownLine), ("sure wire", UnknownLine)):
            with self.assertRaises(error) as caught:
                console.execute(command)
            if error is UnknownLine:
                self.assertEqual(caught.exception.name, command.split(" ")[1])
            self.assertEqual(console.execute("where"), "2 6 3")
        with self.assertRaises(InvalidText) as caught:
            console.execute("send a 5 ")
        self.assertEqual(caught.exception.index, 1)
        answers(console, "undo", "undo", "undo")
        with self.assertRaises(NothingToUndo):
            console.execute("undo")

    def test_beside_a_bench(self):
        chance = random.Random(75)
        for wire in (WIRE, FOUR, ONE):
            console, bench = ready(wire), Bench(wire)
            for _ in range(60):
                deed = random_deed(chance, bench)
                if did(bench, deed):
                    words = [deed[0]] + [plain_text(deed[2]) if (deed[0], k) == ("send", 2) else str(deed[k]) for k in range(1, len(deed))]
                    answer = console.execute(" ".join(word for word in words if word))
                    self.assertTrue(answer == "ok" or answer.isdigit())
                names = [line[0] for line in wire[1]]
                self.assertEqual(console.execute("where"), f"{bench.taken} {len(bench.tape)} {len(bench)}")
                self.assertEqual(console.execute("tape"), bench.tape[bench.taken:] or "none")
                for name in names:
                    self.assertEqual(console.execute("queue " + name), bench.queue(name) or "none")
                    self.assertEqual(console.execute("things " + name), " ".join(map(plain_text, bench.things(name))) or "none")
                self.assertEqual(console.execute("dead"), " ".join(name or "wire" for name in bench.dead()) or "none")

    def test_two_consoles(self):
        one, other = ready(), ready(FOUR)
        answers(one, "send a 1")
        self.assertEqual([one.execute("where"), other.execute("where")], ["0 0 1", "0 0 0"])

    def test_examples(self):
        console = Console()
        self.assertEqual(answers(console, "wire (('width',2,),(('a','',('w',(('w',('width',3,),),),),),),)", "send a 5", "pack a 2", "pack a 1", "take 9", "things a", "where", "tape", "undo", "tape"), ["ok", "3", "4", "3", "7", "5", "7 7 4", "none", "take", "1010011"])


if __name__ == "__main__":
    unittest.main()
