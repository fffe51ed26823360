"""[58] to [62]: codes, their faults, lengths and paces, against lists of words."""

import random
import unittest

from tests import oracle, plaincodes
from tests.examples import ANY_VALUES, BOX, CODES, EVEN, TREE, SubInt, SubList, SubStr, SubTuple, nested
from tests.plaincodes import EXAMPLE, PARITY
from termsonwires.codes import are_lengths, code_fault, code_of, is_code, is_pace, pace, rule_lengths
from termsonwires.errors import Faulty, InvalidCode, InvalidSheet, UnsoundCode
from termsonwires.faults import faults
from termsonwires.feeding import answer_of, begun, steps
from termsonwires.reading import read

PUT = ("put", 0)
FAULTY = ("m", (("m", ("table", ((1, "0"), (2, "0")))),))
UNSOUND = (("one", (("0", (PUT,)), ("0", (PUT,)))),)


def code(*rows):
    """A code of one rule."""
    return (("one", tuple(rows)),)


def of_act(act, *rules):
    return (("one", (("0", (act,)),)),) + rules


MANY = ("many", (("0", ()), ("1", (PUT, ("call", 1)))))
ONE = ("one", (("0", (PUT,)),))


class IsCodeTest(unittest.TestCase):
    def check(self, good, bad):
        for value in good:
            self.assertIs(is_code(value), True, repr(value)[:90])
        for value in bad:
            self.assertIs(is_code(value), False, repr(value)[:90])
            with self.assertRaises(InvalidCode):
                code_fault(value)

    def test_rules(self):
        self.check(
            [EXAMPLE, (("one", ()),), code(("", (PUT,))), code(("0" * 500, (PUT,))), code(("0", (PUT,)), ("0", (PUT,))), (ONE, MANY), (ONE, ("many", ())), UNSOUND,
             (ONE, ("many", (("0", (PUT, PUT, PUT)),)))],
            ANY_VALUES + [(MANY,), (MANY, ONE), (("many", ()),), (("two", ()),), (ONE, ("two", ())), (ONE, ("", ())), ("one", ()), (("one", []),), (ONE, ("many", [])), (["one", ()],), [("one", ())], (("one", (), ()),), (("one",),), SubTuple((("one", ()),)),
             ((SubStr("one"), ()),), code(("2", (PUT,))), code((0, (PUT,))), code((SubStr("0"), (PUT,))), code(["0", (PUT,)]), code(("0", [PUT])), code(("0", (PUT,), ())), code(("0", ())),
             code(("0", (PUT, PUT))), code(("0", PUT)), code(("0", (None,))), (ONE, ("many", (("0", (None,)),)))])

    def test_acts(self):
        deep = PUT
        for _ in range(16):
            deep = ("tuple", (deep,))
        row8 = PARITY * 4
        good = [
            ("put", ()), ("put", "x" * 12), ("put", 10 ** 40 - 1), ("put", nested(300)), ("call", 0), ("tuple", ()), ("tuple", (PUT, PUT)), deep, ("label", "", PUT), ("label", "x" * 12, PUT),
            ("sized", 0, PUT), ("sized", 40, PUT), ("checked", PARITY, 0, PUT), ("checked", PARITY, 1, PUT), ("checked", row8, 7, PUT), ("checked", ((0, 0, "1010"),), 0, PUT),
            ("label", "a", ("sized", 3, ("checked", PARITY, 0, ("tuple", (("call", 0), ("put", 1))))))]
        bad = [
            None, (), "put", ["put", 0], ("put",), ("put", 0, 0), ("put", True), ("put", None), ("put", [0]), ("put", (0, False)), ("put", 10 ** 40), ("put", "x" * 13), ("put", SubInt(0)), ("Put", 0),
            (SubStr("put"), 0), SubTuple(PUT), ("call",), ("call", 1), ("call", -1), ("call", True), ("call", False), ("call", "0"), ("call", 0, 0), ("call", SubInt(0)), ("tuple",), ("tuple", PUT),
            ("tuple", [PUT]), ("tuple", (PUT, 0)), ("tuple", (PUT,), ()), ("label", "a"), ("label", PUT, "a"), ("label", 1, PUT), ("label", "x" * 13, PUT), ("label", "%", PUT), ("label", "a", 0),
            ("label", "a", PUT, PUT), ("sized", 41, PUT), ("sized", -1, PUT), ("sized", True, PUT), ("sized", "1", PUT), ("sized", 1), ("sized", 1, PUT, PUT), ("sized", 1, None), ("checked", PARITY, 2, PUT),
            ("checked", PARITY, -1, PUT), ("checked", PARITY, True, PUT), ("checked", PARITY, PUT), ("checked", PARITY, 0), ("checked", (), 0, PUT), ("checked", ((0, 1, "0"),), 0, PUT), ("checked", [PARITY[0]], 0, PUT),
            ("checked", ((0, 0, ""),), 0, PUT), ("checked", ((0, 0, "10101"),), 0, PUT), ("checked", row8 + PARITY[:1], 0, PUT), ("checked", PARITY, 0, None), ("checked", PARITY, 0, PUT, PUT), ("many", PUT), ("chequed", PARITY, 0, PUT), ("marked", 1, PUT)]
        self.check([of_act(act) for act in good], [of_act(act) for act in bad])
        self.check([of_act(("tuple", (PUT, act))) for act in good], [of_act(("label", "a", act)) for act in bad])
        self.check([(ONE, ("many", (("0", (act, PUT)),))) for act in good], [(ONE, ("many", (("0", (PUT, act, PUT)),))) for act in bad if act != ("call", 1)])

    def test_calls_of_many(self):
        call = ("call", 1)
        self.check(
            [of_act(("tuple", (call,)), MANY), of_act(("tuple", (PUT, call)), MANY), of_act(("label", "a", ("tuple", (call,))), MANY), (ONE, ("many", (("0", (PUT, call)),))), (ONE, ("many", (("0", (call,)),))),
             (ONE, ("many", (("0", (("tuple", (call,)), call)),)))],
            [of_act(call, MANY), of_act(("tuple", (call, PUT)), MANY), of_act(("label", "a", call), MANY), of_act(("sized", 1, call), MANY), of_act(("checked", PARITY, 0, call), MANY),
             of_act(("tuple", (call, call)), MANY), (ONE, ("many", (("0", (call, PUT)),))), (ONE, ("many", (("0", (call, call)),))), of_act(("tuple", (("label", "a", call),)), MANY),
             (ONE, ("many", (("0", (("label", "a", call),)),)))])

    def test_lists_and_truths(self):
        for value in ([list(row) for row in EXAMPLE], list(EXAMPLE), True, False, SubList(EXAMPLE), (EXAMPLE[0], list(EXAMPLE[1]))):
            self.assertIs(is_code(value), False)


class FaultTest(unittest.TestCase):
    def test_first_fault(self):
        loop = ("0", (("call", 0),))
        for value, fault in (
                (EXAMPLE, None), ((("one", ()),), None), (UNSOUND, ("begins", 0, 0, 1)), (code(("01", (PUT,)), ("1", (PUT,)), ("0", (PUT,))), ("begins", 0, 0, 2)),
                (code(("1", (PUT,)), ("0", (PUT,)), ("01", (PUT,)), ("", (PUT,))), ("begins", 0, 0, 3)), (code(loop), ("endless", 0, 0)), (code(("1", (PUT,)), loop), None),
                (code(loop, ("1", (PUT,)), ("1", (PUT,))), ("begins", 0, 1, 2)), (of_act(("call", 1), ("one", ())), ("endless", 0, 0)), ((ONE, ("one", (loop, ("1", (("call", 1),)))), ), None), ((ONE, ("one", (("1", (("tuple", (("call", 1),)),)),))), ("endless", 1, 0)),
                ((ONE, ("one", (loop, ("1", (("call", 2),)))), ("one", (("0", (PUT,)), ("", (PUT,))))), ("begins", 2, 0, 1)), ((ONE, ("many", (("0", (("call", 1),)),))), ("endless", 1, 0)),
                ((ONE, ("many", (("1", (PUT,)), ("0", (PUT, ("call", 1)))))), None), (of_act(("sized", 1, PUT)), ("endless", 0, 0)), (of_act(("sized", 0, PUT)), None), (of_act(("sized", 1, ("call", 1)), ONE), None),
                (of_act(("sized", 2, ("call", 1)), ONE), ("endless", 0, 0)), (of_act(("sized", 3, ("checked", PARITY, 0, ("call", 1))), ONE), ("endless", 0, 0)),
                (of_act(("sized", 2, ("checked", PARITY, 0, ("call", 1))), ONE), None), (of_act(("sized", 40, ("tuple", (("call", 1),))), MANY), None), (of_act(("sized", 0, ("tuple", (("call", 1),))), MANY), ("endless", 0, 0)),
                (code(("0", (("sized", 2, ("call", 0)),)), ("1", (PUT,))), ("endless", 0, 0)), (code(("0", (("sized", 1, ("call", 0)),)), ("1", (PUT,))), None)):
            self.assertEqual(code_fault(value), fault, value)

    def test_against_lists(self):
        chance, told = random.Random(59), {}
        for _ in range(400):
            value = plaincodes.random_code(chance, chance.random() < 0.8)
            expected = None
            words = plaincodes.rule_words(value, 9, 12)
            for k, (_, rows) in list(enumerate(value))[::-1]:
                for i, (_, acts) in list(enumerate(rows))[::-1]:
                    if not plaincodes.acts_words(acts, words, 9):
                        expected = ("endless", k, i)
            for k, (_, rows) in list(enumerate(value))[::-1]:
                for i in range(len(rows))[::-1]:
                    for j in range(i + 1, len(rows))[::-1]:
                        if rows[i][0].startswith(rows[j][0]) or rows[j][0].startswith(rows[i][0]):
                            expected = ("begins", k, i, j)
            fault = code_fault(value)
            told[expected and expected[0]] = told.get(expected and expected[0], 0) + 1
            if fault != expected and expected[0] == "endless":
                continue
            self.assertEqual(fault, expected, value)
        self.assertGreater(min(told.values()), 40)

    def test_long_words_are_words(self):
        """A row all of whose words are long has words."""
        long = (("one", (("", (("tuple", (("call", 1),) * 8),)),)), ("one", (("0" * 50, (PUT,)),)))
        self.assertIsNone(code_fault(long))
        self.assertEqual(rule_lengths(long), [[], []])


class LengthsTest(unittest.TestCase):
    def test_against_lists(self):
        chance = random.Random(60)
        for _ in range(250):
            value = plaincodes.random_code(chance, chance.random() < 0.8)
            told = rule_lengths(value)
            for rows, words in zip(told, plaincodes.rule_words(value, 9)):
                self.assertEqual([n for n in rows if n <= 9], sorted({len(word) for _, word in words}), value)
            self.assertIs(are_lengths(value, told), True)
            for k, row in enumerate(told):
                for n in row[:3]:
                    bent = [other if j != k else [m for m in row if m != n] for j, other in enumerate(told)]
                    sound = code_fault(value) is None
                    if sound and value[k][1]:
                        closed = are_lengths(value, bent)
                        self.assertFalse(closed and n <= 9, (value, bent))
                more = [other if j != k else list(range(41)) for j, other in enumerate(told)]
                if all("call" not in repr(rule) for rule in value):
                    self.assertIs(are_lengths(value, more), True)
            self.assertIs(are_lengths(value, [list(range(41)) for _ in value]), True)

    def test_forms(self):
        told = [[2, 4, 6, 8, 10, 12, 14, 16, 18, 20, 22, 24, 26, 28, 30, 32, 34, 36, 38, 40], [1]]
        value = (("one", (("00", (PUT,)), ("1", (("tuple", (("call", 1), ("call", 0))),)))), ("one", (("0", (PUT,)), ("1", (PUT,)))))
        self.assertEqual(rule_lengths(value), told)
        self.assertIs(are_lengths(value, told), True)
        self.assertIs(are_lengths(value, [list(range(41)), [1]]), True)
        self.assertIs(are_lengths(value, [list(range(41)), [0, 1]]), True)
        self.assertIs(are_lengths(value, [told[0], [1, 40]]), True)
        self.assertIs(are_lengths(value, [told[0], [0, 1]]), False)
        bad = ANY_VALUES + [tuple(told), told[:1], told + [[]], [tuple(told[0]), [1]], [told[0], [True]], [told[0], [1, 1]], [told[0][::-1], [1]], [told[0], [1, 41]], [told[0], [-1, 1]], [told[0], ["1"]],
                            SubList(told), [SubList(told[0]), [1]], [told[0], [SubInt(1)]], [told[0], None], [told[0], []], [[], [1]], [told[0][1:], [1]], [told[0][:-1], [1]]]
        for other in bad:
            self.assertIs(are_lengths(value, other), False, repr(other)[:80])

    def test_by_a_table(self):
        """sized has just n, and only if the act has it."""
        value = of_act(("sized", 5, ("call", 1)), ONE)
        self.assertEqual(rule_lengths(value), [[], [1]])
        self.assertIs(are_lengths(value, [[], [1, 5]]), False)
        self.assertIs(are_lengths(value, [[6], [1, 5]]), True)
        checked = of_act(("checked", ((0, 0, "101"),), 0, ("call", 1)), ONE)
        self.assertEqual(rule_lengths(checked), [[5], [1]])
        self.assertIs(are_lengths(checked, [[5], [1, 2]]), False)
        self.assertIs(are_lengths(checked, [[5], [1, 37]]), True)
        self.assertIs(are_lengths(checked, [[5], [1, 36]]), False)

    def test_codes_that_are_not_sound(self):
        self.assertEqual(rule_lengths(UNSOUND), [[1]])
        self.assertIs(are_lengths(UNSOUND, [[1]]), True)
        loop = code(("0", (("call", 0),)))
        self.assertEqual(rule_lengths(loop), [[]])
        self.assertIs(are_lengths(loop, [[]]), True)
        self.assertIs(are_lengths(loop, [[40]]), True)
        self.assertIs(are_lengths(loop, [[39]]), False)
        for bad in ANY_VALUES:
            for call in (rule_lengths, code_fault, lambda value: are_lengths(value, [])):
                with self.assertRaises(InvalidCode):
                    call(bad)


def some_sheets(seed, many):
    chance = random.Random(seed)
    sheets = [oracle.random_sheet(chance) for _ in range(many)] + [oracle.ringed_sheet(chance) for _ in range(many)]
    return chance, [sheet for sheet in sheets if not faults(sheet)]


class CodeOfTest(unittest.TestCase):
    def test_words(self):
        chance, sheets = some_sheets(61, 90)
        for sheet in sheets:
            value = code_of(sheet)
            self.assertIs(is_code(value), True)
            self.assertIsNone(code_fault(value))
            found = plaincodes.rule_words(value, 8)[0]
            words = oracle.words(sheet, 8)
            self.assertEqual(sorted(word for _, word in found), sorted(words.values()), sheet)
            self.assertEqual({things[0]: word for things, word in found}, words, sheet)
            for _ in range(8):
                bits = oracle.random_bits(chance, 0, 12)
                self.assertEqual(answer_of(value, bits), read(sheet, bits), (sheet, bits))

    def test_untils(self):
        """Items and marks that begin alike: what is left of items behind some bits."""
        chance, done = random.Random(62), 0
        while done < 120:
            item = oracle.random_term(chance, [], 3)
            sheet = ("m", (("m", ("until", oracle.random_bits(chance, 2, 6), chance.choice([item, ("until", oracle.random_bits(chance, 1, 3), item)]))),))
            if faults(sheet):
                continue
            done += 1
            value = code_of(sheet)
            self.assertIsNone(code_fault(value))
            bits = ""
            for _ in range(14):
                told = read(sheet, bits)
                self.assertEqual(answer_of(value, bits), told, (sheet, bits))
                bits = bits if told[0] == "more" else bits[:-1]
                bits += chance.choice("01")

    def test_named_sheets(self):
        long = ("m", (("m", ("until", "00", ("bits", "010"))), ))
        empty_rest = ("sized", ("table", ((2, "1"),)), ("row", (("bits", "00"), ("bits", ""), ("width", 0))))
        inner = ("until", "11", ("checked", ((0, 0, "1010"),), ("bits", "0")))
        framed = ("row", (("sized", ("table", ((1, "0"),)), ("bits", "1")), ("bits", "0"), ("width", 2)))
        done = ("row", (("either", (("x", "0", ("width", 1)), ("y", "11", ("bits", "00")))), ("width", 1)))
        begun_one = ("row", (("either", (("x", "0", ("width", 1)), ("z", "11", ("row", (("bits", "0"), ("width", 1)))))), ("width", 1)))
        untils = [("m", (("m", ("until", mark, item)),)) for mark, item in (("0111", framed), ("1101", done), ("111", begun_one), ("1011", begun_one))]
        for sheet in (*untils, TREE, EVEN, BOX, CODES, long, ("m", (("m", ("until", "101", empty_rest)),)), ("m", (("m", ("until", "0111", inner)),)), ("m", (("m", ("until", "010111", inner)),)), ("m", (("m", ("bits", "")),)), ("m", (("m", ("width", 8)),)), ("m", (("m", ("width", 0)),)), ("m", (("m", ("until", "101110", ("checked", PARITY, ("width", 3)))),))):
            value = code_of(sheet)
            self.assertIsNone(code_fault(value))
            for bits in oracle.all_bits(7):
                self.assertEqual(answer_of(value, bits), read(sheet, bits), (sheet, bits))

    def test_without_words(self):
        for term in (("table", ()), ("row", (("bits", "0"), ("ref", "m"))), ("sized", ("width", 3), ("bits", "0" * 9)), ("either", ())):
            sheet = ("m", (("m", term),))
            value = code_of(sheet)
            self.assertEqual(plaincodes.rule_words(value)[0], [])
            self.assertEqual(begun(value), (("dead", 0), None))

    def test_errors(self):
        for bad in ANY_VALUES:
            with self.assertRaises(InvalidSheet):
                code_of(bad)
        with self.assertRaises(Faulty):
            code_of(FAULTY)


class PaceTest(unittest.TestCase):
    def test_random_codes(self):
        chance, done = random.Random(63), 0
        for _ in range(500):
            value = plaincodes.random_code(chance)
            if code_fault(value) is not None:
                continue
            done += 1
            told = pace(value)
            self.assertIs(is_pace(value, told), True, value)
            per_bit, weights = told
            reader = plaincodes.Reader(value)
            self.assertLessEqual(reader.count, weights[0])
            held = begun(value)[1]
            for bits in oracle.all_bits(4):
                if held is not None and answer_of(value, bits) == ("more",):
                    self.assertLessEqual(reader.count + steps(value, held, bits), weights[0] + per_bit * len(bits))
        self.assertGreater(done, 120)

    def test_bounds(self):
        self.assertIs(is_pace(EXAMPLE, (5, (0, 0))), True)
        self.assertIs(is_pace(EXAMPLE, (4, (0, 0))), False)
        acts = ("tuple", (PUT, ("label", "a", ("sized", 1, ("checked", PARITY, 0, ("call", 1))))))
        value = (("one", (("", (acts,)),)), ("one", (("000", (("put", 0),)),)))
        for weights, good in (((0, (12, 2)), True), ((0, (11, 2)), False), ((0, (12, 3)), False), ((0, (13, 3)), True), ((1, (10, 0)), True), ((1, (9, 0)), False), ((1, (11, 1)), True), ((0, (12, 1)), False), ((400, (400, 0)), True)):
            self.assertIs(is_pace(value, weights), good, weights)

    def test_other_values(self):
        for value in ANY_VALUES + [(5, (0,)), (5, (0, 0, 0)), (5, [0, 0]), [5, (0, 0)], (5, (0, -1)), (-1, (9, 9)), (True, (9, 9)), (5, (True, 0)), ("5", (0, 0)), (5, ("0", 0)), (5, (0, None)), (5,), (5, (0, 0), 0), (SubInt(5), (0, 0)), (5, SubTuple((0, 0))), SubTuple((5, (0, 0)))]:
            self.assertIs(is_pace(EXAMPLE, value), False)

    def test_codes_that_are_not_sound(self):
        self.assertIs(is_pace(UNSOUND, (2, (0,))), True)
        self.assertIs(is_pace(UNSOUND, (1, (0,))), False)
        loop = code(("", (("call", 0),)))
        self.assertIs(is_pace(loop, (400, (400,))), False)
        with self.assertRaises(UnsoundCode):
            pace(UNSOUND)
        for bad in ANY_VALUES:
            for call in (pace, lambda value: is_pace(value, None)):
                with self.assertRaises(InvalidCode):
                    call(bad)


if __name__ == "__main__":
    unittest.main()
