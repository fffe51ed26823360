"""[17], [18]: the faults that are told, and overlaps."""

import random
import unittest

from tests import judging, oracle
from tests.examples import ANY_VALUES, BOX, CODES, EVEN, TREE, SubTuple, nested
from termsonwires.changes import inlined, lifted, renamed
from termsonwires.errors import InvalidPlace, InvalidSheet
from termsonwires.faults import faults, is_overlap, overlap
from termsonwires.forms import part, places
from termsonwires.things import word_of

EMPTY = ("bits", "")
MACHINE = ((0, 1, "0"), (1, 0, "1"))


def one(term, *entries):
    return ("m", tuple(sorted((("m", term),) + entries)))


class FaultsTest(unittest.TestCase):
    def told(self, term, *expected):
        self.assertEqual(faults(one(term)), sorted(("m", path, word) for path, word in expected), term)

    def test_none(self):
        for sheet in (TREE, BOX, CODES, EVEN):
            self.assertEqual(faults(sheet), [])

    def test_numbers(self):
        for number, counted, sized in [
            (("width", 3), True, True), (("width", 4), False, True), (("width", 5), False, True), (("width", 6), False, False), (("table", ()), True, True),
            (("table", ((8, "0"), (0, "1"))), True, True), (("table", ((9, "0"),)), False, True), (("table", ((40, "0"),)), False, True),
            (("table", ((41, "0"),)), False, False), (("table", ((-1, "0"),)), False, False), (("table", (("1", "0"),)), False, False),
            (("bits", "0"), False, False), (("row", ()), False, False), (("sized", ("width", 5), ("width", 3)), True, True),
            (("sized", ("width", 2), ("width", 4)), False, True), (("checked", MACHINE, ("width", 5)), False, True),
            (("checked", MACHINE, ("checked", MACHINE, ("width", 3))), True, True), (("times", 1, ("width", 1)), False, False),
            (("counted", ("width", 1), EMPTY), False, False), (("until", "1", ("bits", "0")), False, False),
        ]:
            self.told(("counted", number, EMPTY), *([] if counted else [((), "number")]))
            self.told(("sized", number, EMPTY), *([] if sized else [((), "number")]))
            for word, good in (("counted", counted), ("sized", sized)):
                sheet = one((word, ("ref", "n"), EMPTY), ("n", ("ref", "o")), ("o", number))
                self.assertEqual(faults(sheet), [] if good else [("m", (), "number")])
        self.assertEqual(faults(one(("counted", ("ref", "n"), EMPTY), ("n", ("ref", "n")))), [("m", (), "number")])
        self.assertEqual(faults(one(("sized", ("ref", "m"), ("width", 1)))), [("m", (0,), "loop")])
        self.told(("counted", ("sized", ("width", 6), ("width", 2)), EMPTY), ((0,), "number"))

    def test_rings_through_numbers(self):
        sheet = one(("sized", ("sized", ("width", 2), ("ref", "m")), ("width", 1)))
        self.assertEqual(faults(sheet), [])
        self.assertEqual(faults(one(("sized", ("ref", "n"), EMPTY), ("n", ("checked", MACHINE, ("ref", "n"))))),
                         [("m", (), "number"), ("n", (), "check")])

    def test_tags(self):
        for codes, bad in [(["0", "1"], False), (["0", "01"], True), (["0", "0"], True), (["", "1"], True), ([""], False), ([], False),
                           (["10", "0", "1"], True), (["00", "01", "10"], False), (["0110", "10", "0111", "011"], True)]:
            expected = [((), "tags")] if bad else []
            self.told(("table", tuple((k, code) for k, code in enumerate(codes))), *expected)
            self.told(("either", tuple((str(k), code, EMPTY) for k, code in enumerate(codes))), *expected)

    def test_check(self):
        ring = ("row", (("bits", "1"), ("ref", "r")))
        self.assertEqual(faults(one(("checked", MACHINE, ("ref", "r")), ("r", ring))), [("m", (), "check")])
        self.assertEqual(faults(one(("checked", MACHINE, ("ref", "q")), ("q", ("times", 0, ("ref", "r"))), ("r", ring))), [("m", (), "check")])
        self.assertEqual(faults(one(("checked", MACHINE, ("ref", "q")), ("q", ("width", 1)), ("r", ring))), [])
        self.told(("row", (("bits", "1"), ("checked", MACHINE, ("times", 0, ("ref", "m"))))), ((1,), "check"))
        self.assertEqual(faults(one(("row", (("bits", "1"), ("checked", MACHINE, EMPTY), ("ref", "m"))))), [])

    def test_second_row(self):
        self.told(("row", (("times", 2, EMPTY), ("ref", "m"))), ((1,), "loop"))
        self.told(("until", "1", ("times", 0, ("bits", "0"))), ((), "empty"))
        self.told(("row", (("until", "1", EMPTY), ("ref", "m"))), ((0,), "empty"))
        self.told(("row", (("ref", "m"), ("until", "1", EMPTY))), ((0,), "loop"), ((1,), "empty"))

    def test_third_row(self):
        for codes, expected in [
            (["1"], ["mark"]), (["10"], ["mark"]), (["0"], []), ([], []), (["0", "11"], ["mark"]),
        ]:
            self.told(("until", "1", ("table", tuple(enumerate(codes)))), *[((), word) for word in expected])
        for codes, expected in [(["1"], ["early"]), (["10"], ["mark"]), (["101", "0"], ["mark"]), (["11", "0"], []), (["0", "100", "11"], ["mark"]), (["0", "110"], [])]:
            self.told(("until", "10", ("table", tuple(enumerate(codes)))), *[((), word) for word in expected])
        both = ("until", "10", ("until", "0", ("table", (("a", "1"), ("b", "01")))))
        self.told(both, ((), "mark"), ((0,), "mark"))
        self.assertEqual(faults(one(("until", "11", ("until", "0", ("ref", "n"))), ("n", ("width", 1)))), [("m", (), "mark"), ("m", (0,), "mark")])
        inner = ("until", "01", ("table", (("a", "0"), ("b", "1"))))
        self.told(("until", "0111", inner), ((), "early"), ((), "mark"), ((0,), "early"))

    def test_earlier_rows_hide_later_ones(self):
        number = ("counted", ("bits", "0"), EMPTY)
        loop = ("either", (("x", "", ("ref", "n")),))
        empty = ("until", "1", EMPTY)
        mark = ("until", "1", ("width", 1))
        early = ("until", "11", ("bits", "1"))
        rows = [[("number", number), ("tags", ("table", ((1, ""), (2, "")))), ("check", ("checked", MACHINE, ("ref", "r")))],
                [("loop", loop), ("empty", empty)], [("mark", mark), ("early", early)]]
        places_of = {"loop": ("n", (0,)), "number": ("n", ()), "tags": ("n", ()), "check": ("n", ()), "empty": ("n", ()), "mark": ("n", ()),
                     "early": ("n", ())}
        for k, row in enumerate(rows):
            for word, term in row:
                for later in rows[k + 1:]:
                    for other, term_b in later:
                        term_b = ("either", (("x", "", ("ref", "z")),)) if other == "loop" else term_b
                        ring = ("row", (("bits", "1"), ("ref", "r")))
                        sheet = ("m", (("m", EMPTY), ("n", term), ("r", ring), ("z", term_b)))
                        self.assertEqual(faults(sheet), [places_of[word] + (word,)], (word, other))

    def test_any_entry_counts(self):
        sheet = ("a", (("a", EMPTY), ("b", ("until", "1", ("bits", "1")))))
        self.assertEqual(faults(sheet=sheet), [("b", (), "mark")])

    def test_against_plain_judgement(self):
        chance = random.Random(9)
        sheets = [oracle.random_sheet(chance, depth=4, clean=k % 2 == 0) for k in range(500)]
        sheets += [oracle.ringed_sheet(chance) for _ in range(400)]
        for sheet in sheets:
            found = faults(sheet)
            plain = judging.faults(sheet)
            self.assertEqual(found, sorted(found))
            longer = [fault for fault in found if fault not in plain]
            self.assertEqual([fault for fault in plain if fault not in found], [], sheet)
            for name, path, word in longer:
                self.assertEqual(word, "mark", sheet)
                pair = overlap(sheet, (name, path))
                words = [word_of(("zz", sheet[1] + (("zz", part(sheet, (name, path))),)), thing) for thing in pair]
                self.assertTrue(words[1].startswith(words[0]) and len(words[1]) > 7, sheet)
            self.check_overlaps(sheet, found)

    def check_overlaps(self, sheet, found):
        for place in places(sheet):
            pair = overlap(sheet, place)
            words = [word for name, path, word in found if (name, path) == place]
            due = "empty" in words or "mark" in words or ("tags" in words and part(sheet, place)[0] == "table")
            self.assertEqual(pair is not None, due)
            if due:
                self.assertIs(is_overlap(sheet, place, pair), True, (sheet, place, pair))
                self.assertEqual(overlap(sheet, place), pair)

    def test_overlaps(self):
        sheet = one(("until", "1", ("table", (("a", "10"), ("b", "0")))))
        self.assertIs(is_overlap(sheet, ("m", ()), ((), ("a",))), True)
        self.assertIs(is_overlap(sheet, ("m", ()), (("a",), ())), False)
        self.assertIs(is_overlap(sheet, ("m", ()), (("a",), ("a",))), False)
        self.assertIs(is_overlap(sheet, ("m", ()), ((), ("b",))), False)
        for value in ANY_VALUES + [[(), ("a",)], ((), ("a",), ()), ((), ["a"]), ((), SubTuple(("a",))), SubTuple(((), ("a",))), ((), ("c",))]:
            self.assertIs(is_overlap(sheet, ("m", ()), value), False)
            self.assertIs(is_overlap(sheet, ("m", ()), ((), value)), False)
            self.assertIs(is_overlap(sheet, ("m", ()), (value, value)), False)
        same = one(("table", ((1, "0"), ("1", "0"), (2, "01"))))
        for pair, answer in [((1, "1"), True), (("1", 1), True), ((1, 2), True), ((2, 1), False), ((1, 1), False), ((True, "1"), False)]:
            self.assertIs(is_overlap(same, ("m", ()), pair), answer)
        self.assertIs(is_overlap(TREE, ("tree", (0,)), (0, 1)), False)
        either = one(("either", (("x", "0", EMPTY), ("y", "01", ("table", ())))))
        self.assertIsNone(overlap(either, ("m", ())))
        self.assertEqual(faults(either), [("m", (), "tags")])

    def test_overlaps_by_the_empty_word(self):
        none, width = ("table", ()), ("width", 0)
        for item in [
            EMPTY, width, ("table", (("c", ""),)), ("table", ((-1, ""),)), ("row", ()),
            ("row", (EMPTY, width)), ("either", (("x", "", EMPTY),)), ("either", (("x", "", ("row", (width, width))),)), ("times", 0, none),
            ("times", 3, width), ("counted", width, none), ("counted", ("table", ((3, ""),)), width), ("counted", ("table", ((1, ""),)), EMPTY),
            ("sized", width, EMPTY), ("sized", width, ("table", ((7, ""),))), ("counted", ("sized", width, ("table", ((2, ""),))), EMPTY),
            ("counted", ("ref", "n"), EMPTY), ("ref", "n"), ("sized", ("sized", width, width), ("row", (width,))),
        ]:
            sheet = one(("until", "1", item), ("n", ("sized", ("width", 0), ("table", ((4, ""),)))))
            self.assertEqual(faults(sheet), [("m", (), "empty")], item)
            pair = overlap(sheet, ("m", ()))
            self.assertIs(is_overlap(sheet, ("m", ()), pair), True, (item, pair))
        looped = one(("until", "1", ("ref", "n")), ("n", ("either", (("x", "", ("ref", "n")),))))
        self.assertEqual(faults(looped), [("n", (0,), "loop")])
        both = one(("until", "1", ("ref", "n")), ("n", ("row", (("times", 0, ("ref", "n")), ("times", 2, width)))))
        self.assertEqual(faults(both), [("m", (), "empty"), ("n", (0, 0), "loop")])
        self.assertIs(is_overlap(both, ("m", ()), overlap(both, ("m", ()))), True)

    def test_overlaps_with_long_words(self):
        long = one(("until", "1", ("row", (("bits", "1"), ("times", 8, ("times", 8, ("times", 8, ("bits", "0"))))))))
        pair = overlap(long, ("m", ()))
        self.assertIs(is_overlap(long, ("m", ()), pair), True)
        huge = EMPTY
        for _ in range(11):
            huge = ("times", 8, huge)
        sheet = ("a", (("a", ("until", "1", ("ref", "b"))), ("b", huge)))
        self.assertEqual(faults(sheet), [("a", (), "empty")])
        self.assertEqual(overlap(sheet, ("a", ()))[0], ())
        far = ("a", (("a", ("until", "1", ("row", (("bits", "0"), ("ref", "b"))))), ("b", huge[:2] + (("times", 8, ("bits", "1")),))))
        self.assertEqual(faults(far), [])

    def test_kept_by_changes(self):
        for sheet in oracle.sample_sheets(10, 150):
            clean = not faults(sheet)
            for place in places(sheet):
                self.assertEqual(not faults(lifted(sheet, place, "zz")), clean)
                if part(sheet, place)[0] == "ref":
                    self.assertEqual(not faults(inlined(sheet, place)), clean)
            self.assertEqual(not faults(renamed(sheet, ((sheet[0], "zz"),))), clean)

    def test_errors_in_order(self):
        for value in ANY_VALUES:
            with self.assertRaises(InvalidSheet):
                faults(value)
            with self.assertRaises(InvalidSheet):
                overlap(value, value)
            with self.assertRaises(InvalidSheet):
                is_overlap(value, value, value)
            with self.assertRaises(InvalidPlace):
                overlap(TREE, value)
            with self.assertRaises(InvalidPlace):
                is_overlap(sheet=TREE, place=value, value=nested(3))


if __name__ == "__main__":
    unittest.main()
