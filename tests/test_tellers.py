"""[29] to [31]: tellers against the texts of all things, and against [29] and [30] word by word."""

import random
import unittest

from tests import oracle
from tests.examples import ANY_VALUES, TREE, SubInt, SubList, SubStr, SubTuple
from tests.plainrows import bare, begins_alike, first_signs, flat_sheets, lead, one, plainly_least_teller
from termsonwires.acceptors import acceptor_of, acceptor_read, is_least, teller_bulk
from termsonwires.changes import inlined, lifted, renamed, unrolled
from termsonwires.errors import Endless, Faulty, InvalidBits, InvalidSheet, InvalidTeller, TooMany
from termsonwires.faults import faults
from termsonwires.forms import part, places
from termsonwires.growth import most_length
from termsonwires.tellers import is_least_teller, known, state_known, teller_of
from termsonwires.texts import thing_of, thing_text

FAULTY = one(("table", ((1, "0"), (2, "0"))))
NO = ("table", ())
NONE = ("", [((0, ""), (0, ""), "dead")])
NUMBERS = ("1", [((1, ""), (2, ""), "open"), ((3, ""), (3, ""), "whole"), ((1, "2"), (1, "3"), "open"), ((3, ""), (3, ""), "dead")])
LOOP = ("(", [((0, "(),"), (1, ")"), "open"), ((2, ""), (2, ""), "whole"), ((2, ""), (2, ""), "dead")])


def small_tellers(seed, many, most=12):
    chance, sheets = flat_sheets(seed, many)
    found = []
    for sheet in sheets:
        if teller_bulk(sheet) <= 400:
            teller = teller_of(sheet)
            if len(teller[1]) <= most:
                found.append((sheet, teller))
    return chance, found


class TellersTest(unittest.TestCase):
    def test_examples(self):
        self.assertEqual(teller_of(one(("table", ((1, "0"), (12, "10"), (13, "11"))))), NUMBERS)
        self.assertEqual(known(NUMBERS, "1"), "1")
        start, rows = teller_of(one(("counted", ("width", 1), ("bits", ""))))
        self.assertEqual([start, rows[0][0][1], rows[0][1][1]], ["(", ")", "(),)"])
        self.assertEqual(teller_of(one(("until", "1", ("bits", "0")))), LOOP)

    def test_against_the_texts_of_all_things(self):
        chance, sheets = flat_sheets(70, 420)
        for sheet in sheets:
            if teller_bulk(sheet) > 400:
                with self.assertRaises(TooMany) as caught:
                    teller_of(sheet)
                self.assertEqual(caught.exception.count, teller_bulk(sheet))
                continue
            teller = teller_of(sheet)
            self.assertLessEqual(len(teller[1]), teller_bulk(sheet) + 2, sheet)
            self.assertIs(is_least_teller(teller), True)
            texts = {word: thing_text(thing) for thing, word in oracle.words(sheet, 8).items()}
            for word in chance.sample(sorted(texts), min(12, len(texts))):
                self.assertEqual(known(teller, word), texts[word], sheet)
                self.assertEqual(repr(thing_of(known(teller, word))), repr(thing_of(texts[word])))
                self.assertIsNone(known(teller, word + chance.choice("01")))
            self.check_beside_acceptor(sheet, teller, chance)

    def check_beside_acceptor(self, sheet, teller, chance):
        plain = bare(teller)
        if teller_bulk(sheet) <= 400:
            rows = acceptor_of(sheet)
            self.assertGreaterEqual(len(plain), len(rows))
            for bits in oracle.all_bits(4) + [oracle.random_bits(chance, 5, 12) for _ in range(6)]:
                state = state_known(teller, bits)
                self.assertEqual(state, lead(plain, 0, bits))
                self.assertEqual(plain[state][2], rows[lead(rows, 0, bits)][2], (sheet, bits))
                self.assertIs(known(teller, bits) is None, plain[state][2] == "dead")
                for end in range(len(bits) + 1):
                    if plain[lead(plain, 0, bits[:end])][2] == "whole":
                        self.assertEqual(acceptor_read(rows, bits), ("whole", end))

    def test_said_as_early_as_can_be(self):
        _, found = small_tellers(71, 260)
        for sheet, teller in found:
            plain = bare(teller)
            signs = first_signs(teller[1])
            for state in range(len(plain)):
                if plain[state][2] == "open":
                    self.assertTrue("" in signs[state] or len(signs[state]) > 1, (sheet, state))
            if most_length(sheet) is not None and most_length(sheet) < 9:
                words = oracle.words(sheet, 9)
                for bits in oracle.all_bits(4):
                    texts = [thing_text(thing) for thing, word in words.items() if word.startswith(bits)]
                    self.assertEqual(known(teller, bits), begins_alike(texts) if texts else None, (sheet, bits))

    def test_equal_exactly_for_the_same_things_and_words(self):
        chance, found = small_tellers(72, 200, 400)
        for sheet, teller in found[:60]:
            again = lifted(sheet, chance.choice(places(sheet)), "zz")
            self.assertEqual(teller_of(again), teller)
            self.assertEqual(teller_of(renamed(again, (("zz", "zy"),))), teller)
            refs = [place for place in places(again) if part(again, place)[0] == "ref"]
            self.assertEqual(teller_of(inlined(again, chance.choice(refs))) if refs else teller, teller)
        for one_sheet, teller in found[:40]:
            for other, other_teller in found[:40]:
                if oracle.words(one_sheet, 8) != oracle.words(other, 8):
                    self.assertNotEqual(teller, other_teller)
                elif most_length(one_sheet) is not None and max(most_length(one_sheet), most_length(other) or 9) < 9:
                    self.assertEqual(teller, other_teller, (one_sheet, other))
        self.assertNotEqual(teller_of(one(("width", 1))), teller_of(one(("table", ((1, "0"), (0, "1"))))))
        self.assertNotEqual(teller_of(one(("table", ((1, "0"), (2, "1"))))), teller_of(one(("table", (("1", "0"), ("2", "1"))))))
        self.assertEqual(teller_of(one(("width", 1))), teller_of(one(("table", ((1, "1"), (0, "0"))))))

    def test_each_term(self):
        until = ("until", "10", ("table", (("a", "0"), ("b", "11"))))
        machine = ((0, 1, "01"), (1, 0, "10"))
        for term in [
            NO, ("bits", ""), ("bits", "101"), ("table", ((-12, ""),)), ("width", 0), ("width", 3), ("row", ()), ("either", (("only", "", ("width", 1)),)), until,
            ("times", 0, until), ("times", 3, ("width", 1)), ("counted", ("table", ((0, "1"), (3, "01"), (2, "00"))), ("table", ((5, "0"), (55, "1")))),
            ("counted", NO, until), ("counted", ("table", ((0, "1"), (2, "0"))), NO), ("sized", ("table", ((0, "1"), (4, "01"), (7, "00"))), until),
            ("sized", ("table", ((0, "11"),)), ("bits", "")), ("sized", ("width", 2), ("row", ())), ("checked", machine, until), ("checked", machine, ("row", ())),
            ("checked", machine, ("checked", machine, until)), ("until", "111", ("table", (("a", "110"), ("ab", "0"), ("b", "10")))), ("until", "1", NO),
            ("sized", ("width", 3), ("checked", machine, ("until", "1", ("bits", "0")))), ("row", (("width", 1), NO)),
            ("either", (("x", "0", NO), ("y", "1", ("width", 2)))),
        ]:
            sheet = one(term)
            self.assertEqual(faults(sheet), [], term)
            teller = teller_of(sheet)
            self.assertLessEqual(len(teller[1]), teller_bulk(sheet) + 2)
            words = oracle.words(sheet, 9)
            for thing, word in words.items():
                self.assertEqual(known(teller, word), thing_text(thing), (term, word))
            for bits in oracle.all_bits(8):
                begun = any(word.startswith(bits) for word in words.values())
                if begun:
                    self.assertIsNotNone(known(teller, bits))
                whole = bare(teller)[state_known(teller, bits)][2] == "whole"
                self.assertIs(whole, bits in words.values(), (term, bits))
            self.assertTrue(len(teller[1]) > 14 or plainly_least_teller(teller), (term, teller))

    def test_above_four_hundred(self):
        wide = one(("row", (("width", 8), ("width", 7), ("width", 4), ("bits", "011"))))
        self.assertEqual(teller_bulk(wide), 255 + 127 + 15 + 3)
        teller = teller_of(wide)
        self.assertEqual(known(teller, "11111111" + "0000000" + "0101" + "011"), "(255,0,5,(),)")
        with self.assertRaises(TooMany) as caught:
            teller_of(one(("row", (("width", 8), ("width", 7), ("width", 4), ("bits", "0111")))))
        self.assertEqual(caught.exception.count, 401)
        with self.assertRaises(TooMany) as caught:
            teller_of(one(("row", (NO, ("times", 2, ("width", 8))))))
        self.assertEqual(caught.exception.count, 510)

    def test_deep_and_long_texts(self):
        deep = unrolled(TREE, 4)
        teller = teller_of(deep)
        bits = "1" * 4 + "000"
        self.assertEqual(known(teller, bits), "('node',(" * 4 + "('leaf',0,),('leaf',")
        many = one(("times", 8, ("times", 8, ("times", 1, ("table", ((10 ** 39, "0"), (-10 ** 39, "1")))))))
        word = "01" * 32
        self.assertEqual(known(teller_of(many), word).count(str(10 ** 39)), 64)
        self.assertEqual(thing_of(known(teller_of(many), word))[7][7], (-10 ** 39,))
        long = unrolled(("m", (("m", ("either", (("x", "0", ("bits", "")), ("y", "1", ("row", (("bits", "1"), ("ref", "m"))))))),)), 39)
        self.assertEqual(known(teller_of(long), "11" * 39 + "0"), "('y',((),"  * 39 + "('x',(),)" + ",),)" * 39)

    def test_all_values_bent_in_one_entry(self):
        chance, found = small_tellers(73, 200, 7)
        for sheet, (start, rows) in found[:40]:
            self.assertTrue(plainly_least_teller((start, rows)), sheet)
            self.check_bent((start[:-1], rows))
            self.check_bent((start + "1", rows))
            for k in range(len(rows)):
                for j in (0, 1):
                    state, text = rows[k][j]
                    for step in [(state, text + "1"), (state, text[:-1]), (state, "")] + [(other, text) for other in range(len(rows))]:
                        self.check_bent((start, rows[:k] + [rows[k][:j] + (step,) + rows[k][j + 1:]] + rows[k + 1:]))
                for kind in ("open", "whole", "dead"):
                    self.check_bent((start, rows[:k] + [rows[k][:2] + (kind,)] + rows[k + 1:]))

    def check_bent(self, value):
        self.assertIs(is_least_teller(value), plainly_least_teller(value), value)

    def test_random_values(self):
        chance = random.Random(74)
        for _ in range(3000):
            many = chance.randint(1, 4)
            step = lambda: (chance.randrange(many), chance.choice(["", "", "", "a", "b", "ab"]))
            rows = [(step(), step(), chance.choice(["open", "open", "whole", "dead"])) for _ in range(many - 1)]
            rows.append(((many - 1, ""), (many - 1, ""), "dead"))
            self.check_bent((chance.choice(["", "", "a"]), rows))

    def test_bent_ones_by_name(self):
        whole, dead = ((3, ""), (3, ""), "whole"), ((3, ""), (3, ""), "dead")
        self.assertIs(is_least_teller(NUMBERS), True)
        self.assertIs(is_least_teller(("", [((1, "1"), (2, "1"), "open"), whole, ((1, "2"), (1, "3"), "open"), dead])), False)
        self.assertIs(is_least_teller(("1", [((1, ""), (2, ""), "open"), ((3, "x"), (3, ""), "whole"), ((1, "2"), (1, "3"), "open"), dead])), False)
        self.assertIs(is_least_teller(("1", [((1, ""), (2, ""), "open"), whole, ((1, "2"), (3, ""), "open"), dead])), False)
        self.assertIs(is_least_teller(("1", [((1, ""), (2, "2"), "open"), whole, ((1, ""), (3, ""), "open"), dead])), True)
        self.assertIs(is_least_teller(("1", [((1, ""), (2, "2"), "open"), whole, ((1, ""), (3, "x"), "open"), dead])), False)
        self.assertEqual([is_least_teller(NONE), is_least_teller(("a", NONE[1]))], [True, False])
        self.assertIs(is_least_teller(("any text", [((1, ""), (1, ""), "whole"), ((1, ""), (1, ""), "dead")])), True)
        twice = ("", [((1, ""), (2, "x"), "open"), ((3, ""), (4, ""), "open"), ((3, ""), (4, ""), "open"), ((4, ""), (4, ""), "whole"), ((4, ""), (4, ""), "dead")])
        self.assertIs(is_least_teller(twice), False)
        cut = [((0, ""), (1, ""), "open"), ((2, ""), (2, ""), "whole"), ((2, ""), (2, ""), "dead")]
        self.assertIs(is_least_teller(("", cut)), True)
        self.assertIs(is_least_teller(("", [((0, "a"), (1, "a"), "open")] + cut[1:])), False)
        self.assertIs(is_least_teller(("", [((0, "ab"), (1, ""), "open")] + cut[1:])), True)
        self.assertIs(is_least_teller(("", [((1, "a"), (1, "b"), "open")] + cut[1:])), True)

    def test_other_values(self):
        start, rows = NUMBERS
        for value in ANY_VALUES + [
            [start, rows], (start, tuple(rows)), (start,), (start, rows, 1), (1, rows), (SubStr(start), rows), SubTuple(NUMBERS), (start, SubList(rows)), (start, []),
            (start, [list(row) for row in rows]), (start, [SubTuple(rows[0])] + rows[1:]), (start, [rows[0][:2]] + rows[1:]), (None, rows), (start, rows + [None]),
            (start, [([1, ""], (2, ""), "open")] + rows[1:]), (start, [((True, ""), (2, ""), "open")] + rows[1:]), (start, [((SubInt(1), ""), (2, ""), "open")] + rows[1:]),
            (start, [((1, None), (2, ""), "open")] + rows[1:]), (start, [((1, SubStr("")), (2, ""), "open")] + rows[1:]), (start, [((1, ""), (4, ""), "open")] + rows[1:]),
            (start, [((1, ""), (2, ""), SubStr("open"))] + rows[1:]), (start, [((1, ""), (2, ""), "other")] + rows[1:]), (start, [((1, "", ""), (2, ""), "open")] + rows[1:]),
            (start, [((-3, ""), (2, ""), "open")] + rows[1:]), ("", [(0, 0, "dead")]),
        ]:
            self.assertIs(is_least_teller(value), False, repr(value)[:60])
            with self.assertRaises(InvalidTeller):
                known(value, None)
            with self.assertRaises(InvalidTeller):
                state_known(value, None)
        chain = [((k + 1, "a"), (k + 1, "b"), "open") for k in range(1000)] + [((1001, ""), (1001, ""), "whole"), ((1001, ""), (1001, ""), "dead")]
        self.assertIs(is_least_teller(("", chain)), True)

    def test_errors(self):
        for value in ANY_VALUES:
            with self.assertRaises(InvalidSheet):
                teller_of(value)
            if not (type(value) is str and set(value) <= set("01")):
                with self.assertRaises(InvalidBits):
                    known(teller=NUMBERS, bits=value)
                with self.assertRaises(InvalidBits):
                    state_known(teller=NUMBERS, bits=value)
        with self.assertRaises(Faulty):
            teller_of(FAULTY)
        with self.assertRaises(Endless) as caught:
            teller_of(TREE)
        self.assertEqual(caught.exception.name, "tree")
        self.assertEqual([known(NONE, ""), known(NONE, "1"), state_known(NONE, "11")], [None, None, 0])
        self.assertEqual([known(NUMBERS, bits) for bits in ["", "0", "10", "11", "00", "110"]], ["1", "1", "12", "13", None, None])
        self.assertTrue(is_least(bare(LOOP)))


if __name__ == "__main__":
    unittest.main()
