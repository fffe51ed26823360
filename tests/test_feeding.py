"""[63] to [65]: codes fed bit by bit, against lists of words and a plain reader; held states, endings and deaths."""

import random
import unittest

from tests import oracle, plaincodes
from tests.examples import ANY_VALUES, BOX, CODES, TREE, SubInt, SubList, SubStr, SubTuple, nested
from tests.plaincodes import EXAMPLE, PARITY
from termsonwires.codes import code_fault, code_of, rule_lengths
from termsonwires.errors import InvalidBits, InvalidCode, InvalidHeld, UnsoundCode
from termsonwires.faults import faults
from termsonwires.feeding import answer_of, begun, death, ending, feed, is_death, is_held, steps

PUT = ("put", 0)
BIT = ("one", (("0", (PUT,)), ("1", (("put", 1),))))
UNSOUND = (("one", (("0", (PUT,)), ("0", (PUT,)))),)
LIST = ("many", (("0", ()), ("1", (("call", 1), ("call", 2)))))
SIZED = (("one", (("", (("sized", 5, ("tuple", (("call", 2),))),)),)), BIT, LIST)
CHECKED = (("one", (("", (("checked", PARITY, 0, ("sized", 4, ("checked", ((0, 0, "10"),), 0, ("tuple", (("call", 1), ("call", 1)))))),)),)), BIT)


def sound_codes(seed, many):
    """Codes that are sound, rows without words being left out."""
    chance, found = random.Random(seed), []
    while len(found) < many:
        code = plaincodes.random_code(chance)
        words = plaincodes.rule_words(code, 9)
        tidy = tuple((kind, tuple(row for row in rows if plaincodes.acts_words(row[1], words, 9))) for kind, rows in code)
        if code_fault(tidy) is None and 1 < len(words[0]) < 500:
            found.append(tidy)
    return chance, found


def sized_codes(seed, many):
    """Codes of sheets in which a sized term stands, with bits behind which they are held."""
    chance, found = random.Random(seed), []
    while len(found) < many:
        inner = ("row", tuple(oracle.random_term(chance, [], 2) for _ in range(2)))
        item = chance.choice([inner, ("until", "1", ("row", (("bits", "0"), inner))), ("sized", ("width", 2), inner)])
        sheet = ("m", (("m", ("sized", ("width", 3), ("row", (item, oracle.random_term(chance, [], 2))))),))
        if not faults(sheet) and begun(code_of(sheet))[1] is not None:
            code = code_of(sheet)
            whole = plaincodes.endings(code, begun(code)[1], 11, 40)
            if whole:
                word = chance.choice(whole)[0]
                found.append((code, word[:chance.randint(0, len(word) - 1)]))
    return chance, found


def held_behind(code, bits):
    """The held state behind the bits from the first one on; None if there is none."""
    held = begun(code)[1]
    return held if held is None else feed(code, held, bits)[1]


class FeedTest(unittest.TestCase):
    def test_against_lists(self):
        chance, codes = sound_codes(70, 150)
        for code in codes:
            words = {word: things[0] for things, word in plaincodes.rule_words(code, 12)[0]}
            for _ in range(12):
                word = chance.choice(sorted(words))
                bits = word + oracle.random_bits(chance, 0, 2) if chance.random() < 0.5 else oracle.random_bits(chance, 0, 8)
                told = answer_of(code, bits)
                whole = [k for k in range(len(bits) + 1) if bits[:k] in words]
                if whole:
                    self.assertEqual(told, ("thing", words[bits[:whole[0]]], whole[0]))
                elif any(other.startswith(bits) for other in words):
                    self.assertEqual(told, ("more",))
                if told[0] == "dead":
                    self.assertFalse(any(other.startswith(bits[:told[1]]) for other in words), (code, bits))
                    self.assertNotEqual(answer_of(code, bits[:told[1] - 1])[0], "dead")

    def test_held_states_and_steps(self):
        chance, codes = sound_codes(71, 120)
        for code in codes:
            first = begun(code)[1]
            if first is None:
                continue
            self.assertEqual(plaincodes.Reader(code).held(), first)
            for _ in range(8):
                bits = oracle.random_bits(chance, 0, 8)
                told, held = feed(code, first, bits)
                self.assertEqual(answer_of(code, bits), told)
                reader = plaincodes.Reader(code, first)
                if told[0] != "dead":
                    reader.feed(bits)
                    self.assertEqual(steps(code, first, bits), reader.count, (code, bits))
                if told == ("more",):
                    self.assertEqual(reader.held(), held)
                    self.assertIs(is_held(code, held), True)
                    self.check_split(code, first, bits, held)
                else:
                    self.assertIsNone(held)

    def check_split(self, code, first, bits, held):
        """K7."""
        for k in range(len(bits) + 1):
            between = feed(code, first, bits[:k])
            self.assertEqual(between[0], ("more",))
            self.assertEqual(feed(code, between[1], bits[k:]), (("more",), held))

    def test_begun(self):
        self.assertEqual(begun((("one", ()),)), (("dead", 0), None))
        self.assertEqual(begun((("one", (("", (("put", "a"),)),)),)), (("thing", "a", 0), None))
        self.assertEqual(begun((("one", (("", (("tuple", (("put", "a"), ("label", "b", PUT))),)),)),)), (("thing", ("a", ("b", 0)), 0), None))
        self.assertEqual(begun(EXAMPLE), (("more",), (((("whole",), (), ()),), ("rule", 0, ""))))
        self.assertEqual(begun(SIZED), (("more",), (((("whole",), (), ()), (("sized", 5), (), ()), (("tuple",), (), ())), ("rule", 2, ""))))

    def test_counts_bits_handed_in(self):
        held = held_behind(EXAMPLE, "1")
        self.assertEqual(feed(EXAMPLE, held, "101"), (("thing", ("m", (1, ("e", ()))), 2), None))
        self.assertEqual(feed(SIZED, begun(SIZED)[1], ""), (("more",), begun(SIZED)[1]))
        three = (("one", (("00", (PUT,)), ("011", (PUT,)))),)
        self.assertEqual(feed(three, held_behind(three, "0"), "1011"), (("dead", 2), None))
        self.assertEqual(feed(three, begun(three)[1], "1"), (("dead", 1), None))

    def test_sized_frames_die_early(self):
        for bits, told in (("0", ("dead", 1)), ("10", ("more",)), ("1010", ("more",)), ("100", ("dead", 3)), ("11110", ("thing", (1, 1), 5)), ("1110", ("more",)), ("11111", ("dead", 5))):
            self.assertEqual(answer_of(SIZED, bits), told, bits)

    def test_checks_as_they_are_read(self):
        for bits, told in (("0010", ("more",)), ("00101", ("thing", (0, 0), 5)), ("00100", ("dead", 5)), ("000", ("dead", 3)), ("0011", ("dead", 4)), ("01100", ("thing", (0, 1), 5)), ("011001", ("thing", (0, 1), 5))):
            self.assertEqual(answer_of(CHECKED, bits), told, bits)
        held = held_behind(CHECKED, "001")
        outer, inner = held[0][1], held[0][3]
        self.assertEqual(outer, (("checked", PARITY, 1), (), ()))
        self.assertEqual(inner, (("checked", ((0, 0, "10"),), 0), ((0, 0),), ()))
        self.assertEqual(held[1], ("check", "0"))
        self.assertEqual(held_behind(CHECKED, "0010"), (((("whole",), (), ()), (("checked", PARITY, 1), ((0, 0),), ())), ("check", "1")))

    def test_closed_frames_count_no_more(self):
        """The state of a checked frame stays while its own check is read, whatever was closed in it."""
        machine = ((1, 1, "10"), (0, 0, "01"))
        code = (("one", (("", (("checked", machine, 0, ("tuple", (("checked", PARITY, 0, ("call", 1)), ("sized", 1, ("call", 1))))),)),)), BIT)
        self.assertEqual(held_behind(code, "111")[0], ((("whole",), (), ()), (("checked", machine, 1), ((1, 1),), ())))
        self.assertEqual(held_behind(code, "1110"), (((("whole",), (), ()), (("checked", machine, 1), ((1, 1),), ())), ("check", "1")))
        self.assertEqual(answer_of(code, "11101"), ("thing", (1, 1), 5))

    def test_steps_of_each_kind(self):
        for code, bits, many in (
                (EXAMPLE, "0", 4), (EXAMPLE, "1", 3), (EXAMPLE, "11", 3 + 2), (EXAMPLE, "110", 3 + 2 + 6), (SIZED, "1", 1), (SIZED, "11", 3), (SIZED, "11110", 1 + 2 + 1 + 2 + 3),
                (CHECKED, "0", 2), (CHECKED, "00", 2 + 3), (CHECKED, "001", 5), (CHECKED, "0010", 7), (CHECKED, "00101", 8)):
            self.assertEqual(steps(code, begun(code)[1], bits), many, (code, bits))
        empty = (("one", (("1", (("tuple", (("call", 1), ("call", 2))),)),)), ("one", (("", (PUT,)),)), ("many", (("", (PUT, PUT)),)))
        self.assertEqual(steps(empty, begun(empty)[1], "1"), 1 + 1 + 2 + 1 + 2 + 1)

    def test_steps_of_a_dying_bit(self):
        three = (("one", (("00", (PUT,)), ("011", (PUT,)))),)
        self.assertEqual(steps(three, begun(three)[1], "1"), 0)
        self.assertEqual(steps(three, begun(three)[1], "010"), 0)
        self.assertEqual(answer_of(SIZED, "0"), ("dead", 1))
        self.assertEqual(steps(SIZED, begun(SIZED)[1], "0"), 1)
        self.assertEqual(steps(SIZED, begun(SIZED)[1], "100"), 1 + 2 + 1)
        self.assertEqual(steps(CHECKED, begun(CHECKED)[1], "000"), 5)
        self.assertEqual(steps(CHECKED, begun(CHECKED)[1], "00101111"), 8)

    def test_deep_things(self):
        code = (("one", (("0", (PUT,)), ("1", (("tuple", (("call", 0),)),)))),)
        told = answer_of(code, "1" * 300 + "0")
        self.assertEqual(told, ("thing", nested(300, 0), 301))

    def test_examples(self):
        held = begun(EXAMPLE)[1]
        self.assertEqual(feed(EXAMPLE, held, "1"), (("more",), (((("whole",), (), ()), (("label", "m"), (), ()), (("tuple",), (), (("call", 0),))), ("rule", 1, ""))))
        self.assertEqual([answer_of(EXAMPLE, "110"), steps(EXAMPLE, held, "110"), ending(EXAMPLE, feed(EXAMPLE, held, "1")[1])], [("thing", ("m", (1, ("e", ()))), 3), 11, "00"])
        self.assertEqual(answer_of(code_of(("s", (("s", ("sized", ("width", 3), ("until", "00", ("bits", "010")))),))), "10100"), ("dead", 5))


class HeldTest(unittest.TestCase):
    def test_bent_lefts_and_states(self):
        """Live exactly if some bits make it whole."""
        chance, codes = sound_codes(72, 100)
        told = {True: 0, False: 0}
        for code, bits in [(code, oracle.random_bits(chance, 0, 5)) for code in codes] + sized_codes(72, 80)[1]:
            held = held_behind(code, bits)
            if held is None:
                continue
            for k, (kind, things, acts) in enumerate(held[0]):
                others = []
                if kind[0] == "sized":
                    others = [(("sized", left), things, acts) for left in range(8)]
                if kind[0] == "checked":
                    others = [(("checked", kind[1], state), things, acts) for state in range(len(kind[1]))]
                if kind[0] == "tuple":
                    others = [(kind, things + (7,), acts), (kind, things, acts + (("sized", 2, ("call", 0)),)), (kind, things, (("sized", 1, PUT),) + acts)]
                for frame in others:
                    value = (held[0][:k] + (frame,) + held[0][k + 1:], held[1])
                    self.judge(code, value, told)
        self.assertGreater(min(told.values()), 50)

    def judge(self, code, value, told):
        kind, things, acts = value[0][-1]
        if value[1][0] == "check" and not kind[1][kind[2]][2].endswith(value[1][1]):
            self.assertIs(is_held(code, value), False)
            return
        calls = [act[:1] == ("call",) and code[act[1]][0] == "many" for frame in value[0] for act in frame[2][:-1]]
        if any(calls) or (value[1][0] == "rule" and code[value[1][1]][0] == "many" and acts):
            self.assertIs(is_held(code, value), False)
            return
        ends = plaincodes.endings(code, value, 12, 1)
        if ends:
            self.assertIs(is_held(code, value), True, (code, value))
            self.assertEqual(ending(code, value), plaincodes.endings(code, value, len(ends[0][0]))[0][0])
        elif is_held(code, value):
            self.assertGreater(len(ending(code, value)), 12)
            self.assertEqual(feed(code, value, ending(code, value))[0][0], "thing")
        told[bool(ends)] += 1

    def check(self, code, good, bad):
        for value in good:
            self.assertIs(is_held(code, value), True, repr(value))
        for value in bad:
            self.assertIs(is_held(code, value), False, repr(value))
            for call in (lambda: feed(code, value, None), lambda: steps(code, value, None), lambda: ending(code, value), lambda: death(code, value, None), lambda: is_death(code, value, None, None)):
                with self.assertRaises(InvalidHeld):
                    call()

    def test_frames(self):
        code = (("one", (("0", (PUT,)), ("1", (("tuple", (("call", 1), ("call", 2))),)))), BIT, LIST)
        whole, tuples, reading = (("whole",), (), ()), (("tuple",), (), ()), ("rule", 1, "")
        row = lambda *frames: ((whole,) + frames, reading)
        label = (("label", "a"), (), ())
        good = [
            row(), row(tuples), row((("tuple",), (1, "x", ((),)), (PUT, ("call", 1), ("call", 2)))), row(tuples, tuples, label), row((("sized", 1), (), ())), row((("sized", 2), (), ()), (("tuple",), (), (("call", 1),))),
            row((("checked", PARITY, 1), (), ()), label, label), row((("sized", 3), (), ()), (("checked", PARITY, 1), (), ()), tuples, (("sized", 2), (), ()), (("checked", PARITY, 0), (), ())),
            row((("tuple",), (nested(300),), ())), row((("tuple",), (), (("sized", 40, ("tuple", (("call", 2),))),)[:0])), ((whole, tuples), ("rule", 2, "")), ((whole,), ("rule", 0, "")), ((whole, label), ("rule", 0, "")),
            ((whole, (("checked", PARITY, 1), (0,), ())), ("check", "1")), ((whole, (("checked", ((0, 0, "0110"),), 0), (0,), ())), ("check", "10")), ((whole, (("sized", 1), (), ()), (("checked", PARITY, 1), (0,), ())), ("check", "1"))]
        bad = ANY_VALUES + [
            row((("sized", 0), (), ())), row((("sized", 41), (), ())), row((("sized", -1), (), ())), row((("sized", True), (), ())), row((("sized", 2), (), ())), row((("sized", 1), (), ()), (("tuple",), (), (("call", 1),))),
            row((("sized", 2), (), ()), (("checked", PARITY, 0), (), ()), (("sized", 2), (), ())), row((("tuple",), (), (("sized", 1, PUT),))), row((("tuple",), (), (("call", 2), PUT))), row((("tuple",), (), (("call", 3),))),
            row((("tuple",), (), (None,))), row((("tuple",), (), [PUT])), row((("tuple",), [0], ())), row((("tuple",), (True,), ())), row((("tuple",), (None,), ())), row((("tuple", 1), (), ())), row((("tuple",), ())), row((("tuple",), (), (), ())),
            row(("tuple", (), ())), row((["tuple"], (), ())), row(((), (), ())), row(((1,), (), ())), row((("sized",), (), ())), row((("sized", 1, 1), (), ())), row((("sized", None), (), ())), row((("checked", 5, 0), (), ())),
            row((("checked", list(PARITY), 0), (), ())), row((("checked", PARITY, 0, 0), (), ())), row((("tuple",), [], ())), row((("tuple",), (), [])), row((("label", "a", "b"), (), ())), row(whole), row((("label", "a"), (0,), ())), row((("label", "a"), (), (PUT,))), row((("label", 1), (), ())), row((("label", "x" * 13), (), ())), row((("label",), (), ())), row((("sized", 1), (), (PUT,))),
            row((("checked", PARITY, 2), (), ())), row((("checked", PARITY, 0), (0,), ())), row((("checked", PARITY), (), ())), row((("checked", (), 0), (), ())), row((("some",), (), ())), ((), reading), ((tuples,), reading),
            ((tuples, whole), reading), (((("whole",), (0,), ()),), reading), (((("whole",), (), (PUT,)),), reading), ([whole], reading), [(whole,), reading], ((whole,), reading, ()), ((whole,),), SubTuple(row())]
        self.check(code, good, bad)

    def test_readings(self):
        code = (("one", (("00", (PUT,)), ("011", (("tuple", (("call", 1),)),)))), ("many", (("01", ()), ("1", (PUT, ("call", 1))))), ("one", (("", (PUT,)),)))
        whole, tuples, check = (("whole",), (), ()), (("tuple",), (), ()), (("checked", ((1, 1, "10"), (0, 0, "01")), 0), (0,), ())
        row = lambda reading, *frames: ((whole,) + frames, reading)
        good = [row(("rule", 0, "")), row(("rule", 0, "0")), row(("rule", 0, "01")), row(("rule", 1, ""), tuples), row(("rule", 1, "0"), tuples), row(("check", "10"), check), row(("check", "0"), check)]
        bad = [
            row(("rule", 0, "00")), row(("rule", 0, "1")), row(("rule", 0, "011")), row(("rule", 1, "")), row(("rule", 1, ""), (("label", "a"), (), ())), row(("rule", 1, ""), (("tuple",), (), (PUT,))), row(("rule", 2, "")),
            row(("rule", 3, "")), row(("rule", -1, "")), row(("rule", True, "")), row(("rule", 0, 0)), row(("rule", 0)), row(("rule", 0, "", "")), row(("Rule", 0, "")), row(["rule", 0, ""]), row(None), row(()), row(("rule", "0", "")),
            row(("rule", 0, SubStr(""))), row(("rule", SubInt(0), "")), row(("rule", 0, "2")), row(("check", ""), check), row(("check", "1"), check), row(("check", "01"), check), row(("check", "110"), check), row(("check", "0")),
            row(("check", "0"), tuples), row(("check", "0"), (check[0], (), ())), row(("check", "0"), (check[0], (0, 0), ())), row(("check", "0"), (check[0], (0,), (PUT,))), row(("check", "0"), check, tuples), row(("check", "0"), check, check), row(("check", "0"), (check[0], (True,), ())), row(("check", "0"), (("label", "a"), (0,), ()), (check[0], (), ())),
            row(("check", "0"), (("label", "a"), (0,), ()), check), row(None, check), row("check", check), row(("check",), check),
            row(("check", "0", ""), check), row(("check", 0), check), row(("check", "10"), (("checked", check[0][1], 1), (0,), ()))]
        self.check(code, good, bad)

    def test_frames_may_stand_in_any_sequence(self):
        """A held state needs not come from the first one; outside of sized frames each act must have an end."""
        code = (("one", (("0", (PUT,)),)), ("one", ()))
        frames = lambda act: (((("whole",), (), ()), (("tuple",), (), (act,))), ("rule", 0, ""))
        self.check(code, [frames(("call", 0)), frames(("sized", 1, ("call", 0)))], [frames(("call", 1)), frames(("sized", 2, ("call", 0))), frames(("sized", 0, ("call", 0)))])
        long = (("one", (("0" * 45, (PUT,)),)),)
        self.assertIs(is_held(long, (((("whole",), (), ()), (("tuple",), (), (("call", 0),))), ("rule", 0, "0"))), True)

    def test_ending(self):
        """K6, and the first by length."""
        chance, codes = sound_codes(73, 120)
        for code in codes:
            held = held_behind(code, oracle.random_bits(chance, 0, 5))
            if held is not None:
                ends = plaincodes.endings(code, held, 9)
                if ends:
                    self.assertEqual(ending(code, held), ends[0][0], (code, held))
                told = feed(code, held, ending(code, held))[0]
                self.assertEqual((told[0], told[2]), ("thing", len(ending(code, held))))
        self.assertEqual(ending(SIZED, begun(SIZED)[1]), "10100")
        for sheet in (TREE, BOX, CODES):
            code = code_of(sheet)
            self.assertEqual(ending(code, begun(code)[1]), plaincodes.endings(code, begun(code)[1], 9)[0][0])


class DeathTest(unittest.TestCase):
    def test_papers(self):
        """K5, K6, K10."""
        chance, codes = sound_codes(74, 100)
        told = {}
        for code, bits in [(code, oracle.random_bits(chance, 0, 6)) for code in codes] + sized_codes(74, 150)[1]:
            held = held_behind(code, bits)
            if held is None:
                continue
            papers = [("bit",)] + [("frame", k, rule_lengths(code)) for k in range(len(held[0]))]
            alive = 0
            for bit in "01":
                paper = death(code, held, bit)
                answer, after = feed(code, held, bit)
                self.assertEqual(paper is None, answer[0] != "dead")
                alive += paper is None
                told[paper and paper[0]] = told.get(paper and paper[0], 0) + 1
                right = [other for other in papers if is_death(code, held, bit, other)]
                if paper is None:
                    self.assertEqual(right, [])
                    self.assertTrue(after is None or is_held(code, after))
                else:
                    self.assertIs(is_death(code, held, bit, paper), True)
                    self.assertEqual(right == [("bit",)], paper == ("bit",))
                    self.assertGreater(len(right), 0)
            self.assertGreater(alive, 0)
        self.assertGreater(min(told.values()), 10)
        self.assertEqual(len(told), 3)

    def test_papers_of_frames(self):
        held, told = begun(SIZED)[1], rule_lengths(SIZED)
        self.assertEqual(told, [[5], [1], list(range(1, 41, 2))])
        self.assertEqual(death(SIZED, held, "0")[:2], ("frame", 1))
        self.assertIsNone(death(SIZED, held, "1"))
        self.assertIs(is_death(SIZED, held, "0", ("frame", 1, told)), True)
        more = [[5], [1], list(range(1, 41))]
        self.assertIs(is_death(SIZED, held, "0", ("frame", 1, more)), True)
        deep = held_behind(SIZED, "10")
        self.assertIs(is_death(SIZED, deep, "0", ("frame", 1, told)), True)
        self.assertIs(is_death(SIZED, deep, "1", ("frame", 1, told)), False)
        later = held_behind(SIZED, "111")
        self.assertEqual(feed(SIZED, later, "0")[0], ("more",))
        wide = [[5], [0, 1], list(range(41))]
        self.assertIs(is_death(SIZED, held, "0", ("frame", 1, wide)), True)
        twin = (("one", (("", (("sized", 4, ("tuple", (("call", 1), ("call", 1)))),)),)), ("one", (("0", (PUT,)), ("11", (PUT,)))))
        last = held_behind(twin, "11")
        self.assertEqual(death(twin, last, "0")[:2], ("frame", 1))
        self.assertEqual(death(twin, begun(twin)[1], "0")[:2], ("frame", 1))
        self.assertIs(is_death(twin, begun(twin)[1], "0", ("frame", 1, [[4], [1, 2]])), True)
        self.assertIs(is_death(twin, begun(twin)[1], "0", ("frame", 1, [[4], [1, 2, 3]])), False)
        for table in ([[4], [1]], [[], [1, 2]], [[4]], [[4], [1, 2], []], ((4,), (1, 2)), [[4], (1, 2)], None, [[4], [2, 1]]):
            self.assertIs(is_death(twin, begun(twin)[1], "0", ("frame", 1, table)), False)
        good = [[4], [1, 2]]
        for value in ANY_VALUES + [("bit",), ("frame", 0, good), ("frame", 2, good), ("frame", 3, good), ("frame", -2, good), ("frame", True, good), ("frame", 1), ("frame", 1, good, 0), ["frame", 1, good], ("Frame", 1, good), SubTuple(("frame", 1, good)), ("frame", 1, SubList(good))]:
            self.assertIs(is_death(twin, begun(twin)[1], "0", value), False)
        for value in ANY_VALUES + [("bit",), ("frame", 1, good)]:
            self.assertIs(is_death(twin, begun(twin)[1], "1", value), False)

    def test_papers_of_bits(self):
        three = (("one", (("", (("sized", 3, ("call", 1)),)),)), ("one", (("00", (PUT,)), ("011", (PUT,)))))
        held = begun(three)[1]
        self.assertEqual(death(three, held, "1"), ("bit",))
        self.assertIs(is_death(three, held, "1", ("bit",)), True)
        for value in ANY_VALUES + [("bit", 0), ["bit"], SubTuple(("bit",)), (SubStr("bit"),), ("frame", 1, rule_lengths(three))]:
            self.assertIs(is_death(three, held, "1", value), False)
        self.assertIsNone(death(three, held, "0"))
        check = held_behind(CHECKED, "001")
        self.assertEqual(death(CHECKED, check, "1"), ("bit",))
        self.assertIs(is_death(CHECKED, check, "1", ("bit",)), True)

    def test_inner_frames_of_more(self):
        """The paper tells of the frame whose left does not go on; sized frames inside of one another."""
        code = (("one", (("", (("sized", 6, ("tuple", (("sized", 3, ("tuple", (("call", 2),))), ("call", 1), ("call", 1), ("call", 1)))),)),)), BIT, LIST)
        held = begun(code)[1]
        self.assertEqual(death(code, held, "0")[:2], ("frame", 3))
        self.assertEqual(answer_of(code, "110111"), ("thing", ((1,), 1, 1, 1), 6))
        for index in (1, 3):
            self.assertIs(is_death(code, held, "0", ("frame", index, rule_lengths(code))), index == 3)


class ErrorsTest(unittest.TestCase):
    def test_in_their_order(self):
        calls = (
            lambda code, held, bits: feed(code, held, bits), lambda code, held, bits: steps(code, held, bits), lambda code, held, bits: death(code, held, bits),
            lambda code, held, bits: is_death(code, held, bits, None))
        held = begun(EXAMPLE)[1]
        for bad in ANY_VALUES:
            for call in calls + (lambda code, held, bits: begun(code), lambda code, held, bits: answer_of(code, bits), lambda code, held, bits: is_held(code, held), lambda code, held, bits: ending(code, held)):
                with self.assertRaises(InvalidCode):
                    call(bad, bad, bad)
                with self.assertRaises(UnsoundCode):
                    call(UNSOUND, bad, bad)
            for call in calls + (lambda code, held, bits: ending(code, held),):
                with self.assertRaises(InvalidHeld):
                    call(EXAMPLE, bad, bad)
        for bad in [value for value in ANY_VALUES if value != "" or type(value) is not str] + ["2", "01 ", SubStr("0")]:
            for call in calls:
                with self.assertRaises(InvalidBits):
                    call(EXAMPLE, held, bad)
            with self.assertRaises(InvalidBits):
                answer_of(EXAMPLE, bad)
        for bad in ("", "00", "01"):
            for call in calls[2:]:
                with self.assertRaises(InvalidBits):
                    call(EXAMPLE, held, bad)

    def test_equal_calls(self):
        """Nothing depends on earlier calls, and lists in papers are new."""
        held = begun(SIZED)[1]
        death(SIZED, held, "0")[2].append(1)
        self.assertEqual(len(death(SIZED, held, "0")[2]), 3)


if __name__ == "__main__":
    unittest.main()
