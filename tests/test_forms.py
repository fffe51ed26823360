"""[6] to [8]: which values are terms and sheets; places and parts."""

import unittest

from tests import oracle
from tests.examples import ANY_VALUES, PAIR, TREE, SubInt, SubList, SubStr, SubTuple, nested, nested_list
from termsonwires.errors import InvalidPlace, InvalidSheet
from termsonwires.forms import is_sheet, is_term, part, places

ONE = ((0, 0, "0"),)
EMPTY = ("bits", "")


def deep(depth, wrap, inner=("row", ())):
    term = inner
    for _ in range(depth - 1):
        term = wrap(term)
    return term


WRAPS = [
    lambda term: ("row", (term,)), lambda term: ("row", (EMPTY, term, EMPTY)), lambda term: ("either", (("a", "", term),)),
    lambda term: ("times", 0, term), lambda term: ("counted", term, EMPTY), lambda term: ("counted", EMPTY, term),
    lambda term: ("until", "1", term), lambda term: ("sized", term, EMPTY), lambda term: ("sized", EMPTY, term),
    lambda term: ("checked", ONE, term),
]


class TermsTest(unittest.TestCase):
    def good(self, *terms):
        for term in terms:
            self.assertIs(is_term(term), True, repr(term)[:99])

    def bad(self, *terms):
        for term in terms:
            self.assertIs(is_term(term), False, repr(term)[:99])

    def test_bits(self):
        self.good(EMPTY, ("bits", "0110"), ("bits", "01" * 200))
        self.bad(("bits", "0" * 401), ("bits", "2"), ("bits", 0), ("bits",), ("bits", "0", "1"), ("bits", ("0",)),
                 ("bits", SubStr("0")), (SubStr("bits"), "0"), ["bits", "0"], SubTuple(("bits", "0")), ("Bits", "0"),
                 ("bits", b"0"), ("bits", "0 "), ("bits", "\u0661"))

    def test_table(self):
        self.good(("table", ()), ("table", ((1, ""), ("1", ""))), ("table", (("a", "0" * 400), ("", "1"))),
                  ("table", ((10 ** 40 - 1, "0"), (-(10 ** 40) + 1, "0"))), ("table", (("a" * 12, "0"), (" \"~[]{}", "0"))))
        self.bad(("table", ((1, ""), (1, "0"))), ("table", (("a", ""), ("a", "0"))), ("table", ((10 ** 40, "0"),)),
                 ("table", ((-(10 ** 40), "0"),)), ("table", (("a" * 13, "0"),)), ("table", (("a", "0" * 401),)),
                 ("table", (("a'", "0"),)), ("table", (("\\", "0"),)), ("table", ((chr(37), "0"),)),
                 ("table", (("\n", "0"),)), ("table", (("\x7f", "0"),)), ("table", (("\x1f", "0"),)), ("table", (("\u00e9", ""),)),
                 ("table", ((True, "0"),)), ("table", ((None, "0"),)), ("table", (((), "0"),)), ("table", [("a", "0")]),
                 ("table", (["a", "0"],)), ("table", (("a", "0", "0"),)), ("table", (("a",),)), ("table", ((SubInt(1), "0"),)),
                 ("table", ((SubStr("a"), "0"),)), ("table", (SubTuple(("a", "0")),)), ("table",))

    def test_width(self):
        self.good(*[("width", k) for k in range(9)])
        self.bad(("width", 9), ("width", -1), ("width", True), ("width", "1"), ("width", None), ("width", SubInt(1)),
                 ("width", 1, 1), ("width",))

    def test_row(self):
        self.good(("row", ()), ("row", (EMPTY,)), ("row", (EMPTY,) * 9))
        self.bad(("row", []), ("row", (1,)), ("row", EMPTY), ("row", SubTuple()), ("row", ((),)), ("row",), ("row", (), ()))

    def test_either(self):
        self.good(("either", ()), ("either", (("a", "", EMPTY), ("b", "", EMPTY))), ("either", (("", "0" * 400, EMPTY),)),
                  ("either", (("a" * 12, "1", ("ref", "a")),)))
        self.bad(("either", (("a", "", EMPTY), ("a", "0", EMPTY))), ("either", (("a" * 13, "", EMPTY),)),
                 ("either", (("a", "0" * 401, EMPTY),)), ("either", ((1, "", EMPTY),)), ("either", (("a", EMPTY),)),
                 ("either", [("a", "", EMPTY)]), ("either", (["a", "", EMPTY],)), ("either", (("a", 0, EMPTY),)),
                 ("either", (("a", "", 0),)), ("either", ((SubStr("a"), "", EMPTY),)))

    def test_times(self):
        self.good(("times", 0, EMPTY), ("times", 8, EMPTY))
        self.bad(("times", 9, EMPTY), ("times", -1, EMPTY), ("times", True, EMPTY), ("times", EMPTY), ("times", 1, ()),
                 ("times", EMPTY, 1), ("times", "1", EMPTY))

    def test_counted_and_sized(self):
        for word in ("counted", "sized"):
            self.good((word, EMPTY, EMPTY), (word, ("width", 8), ("ref", "x")))
            self.bad((word, EMPTY), (word, EMPTY, EMPTY, EMPTY), (word, 1, EMPTY), (word, EMPTY, 1), (word, (EMPTY, EMPTY)))

    def test_until(self):
        self.good(("until", "1", EMPTY), ("until", "010101", EMPTY))
        self.bad(("until", "", EMPTY), ("until", "0101010", EMPTY), ("until", "2", EMPTY), ("until", 1, EMPTY),
                 ("until", EMPTY, "1"), ("until", "1"), ("until", "1", ""))

    def test_checked(self):
        row = (0, 0, "0")
        self.good(("checked", (row,), EMPTY), ("checked", (row,) * 8, EMPTY), ("checked", ((0, 0, "0101"),), EMPTY),
                  ("checked", ((7, 7, "1"),) * 8, EMPTY))
        for machine in [(), (row,) * 9, [row], ((0, 1, "0"),), ((0, -1, "0"),), ((0, 0, ""),), ((0, 0, "01010"),), (True,),
                        ((0, 0, "0"), (0, 0, "00")), ((0, False, "0"),), ([0, 0, "0"],), ((0, 0),), ((0, 0, "0", "0"),),
                        ((0, 0, "2"),), (("0", 0, "0"),), (SubTuple(row),), (8, 8, "1"), None]:
            self.bad(("checked", machine, EMPTY))
        self.bad(("checked", (row,), 1), ("checked", (row,)), ("checked", EMPTY, (row,)))

    def test_ref(self):
        self.good(("ref", "a"), ("ref", "a1_"), ("ref", "abcdefghijkl"))
        for name in ["", "A", "1a", "_a", "abcdefghijklm", "a-b", "a b", "\u00e9", "a\u0661", None, 1, ("a",), SubStr("a"), "aB"]:
            self.bad(("ref", name))

    def test_lengths_of_tuples(self):
        machine = ((0, 0, "0"),)
        for term in [("bits", "0"), ("table", ()), ("width", 1), ("row", ()), ("either", ()), ("times", 1, EMPTY), ("counted", EMPTY, EMPTY),
                     ("until", "1", EMPTY), ("sized", EMPTY, EMPTY), ("checked", machine, EMPTY), ("ref", "a")]:
            self.good(term)
            self.bad(term + term[1:], term + (term[-1],), term[:-1], term + (None,))

    def test_depth(self):
        for wrap in WRAPS:
            self.good(deep(12, wrap))
            self.bad(deep(13, wrap))
            self.good(deep(12, wrap, ("either", ())), deep(12, wrap, ("ref", "a")))
        self.bad(deep(12, WRAPS[0], ("row", (EMPTY,))))

    def test_any_value(self):
        self.bad(*ANY_VALUES, ("row", nested(130)), ("row", (nested_list(130),)), nested(135, EMPTY))
        self.bad("bits", ("bits", "0", None), (("bits", "0"),), 5, ("unknown", EMPTY), ((), ()), ([], "0"))


class SheetsTest(unittest.TestCase):
    def test_sheets(self):
        self.assertIs(is_sheet(TREE), True)
        self.assertIs(is_sheet(PAIR), True)
        self.assertIs(is_sheet(("a", (("a", ("ref", "a")),))), True)
        names = ["abcdefghijkl", "b", "b0", "b_", "ba"]
        self.assertIs(is_sheet(("b", tuple((name, EMPTY) for name in names))), True)

    def test_no_sheets(self):
        entry = ("a", EMPTY)
        for value in [
            ("a", ()), ("b", (entry,)), ("a", entry), ("a", [entry]), ["a", (entry,)], ("a", (["a", EMPTY],)), ("a", (entry, entry)),
            ("a", (("b", EMPTY), entry)), ("a", (("a", ("ref", "b")),)), ("a", (("a", EMPTY, EMPTY),)), ("A", (("A", EMPTY),)),
            ("a", (entry,), ()), (("a",), (entry,)), ("a", (("a", ("bits", "2")),)), (SubStr("a"), (entry,)),
            ("a", ((SubStr("a"), EMPTY),)), SubTuple(("a", (entry,))), ("a", SubTuple((entry,))), (None, (entry,)), EMPTY,
            ("abcdefghijklm", (("abcdefghijklm", EMPTY),)), (0, (entry,)), (("a", ("times", 1, ("ref", "b"))),),
            ("a", (entry, ("b", ("row", (EMPTY, ("times", 0, ("ref", "c"))))))), SubList(["a", (entry,)]),
            ("a", (("a", deep(13, WRAPS[0])),)),
        ]:
            self.assertIs(is_sheet(value), False, repr(value)[:99])
        for value in ANY_VALUES + [("a", nested(138)), ("a", (("a", nested(135)),))]:
            self.assertIs(is_sheet(value), False, repr(value)[:99])

    def test_places(self):
        self.assertEqual(places(TREE), [("tree", ()), ("tree", (0,)), ("tree", (1,)), ("tree", (1, 0)), ("tree", (1, 1))])
        for sheet in oracle.sample_sheets(1, 200, clean=False):
            self.assertIs(is_sheet(sheet), True)
            found = places(sheet)
            self.assertEqual(found, oracle.all_places(sheet))
            self.assertEqual(found, sorted(set(found)))
            for place in found:
                self.assertEqual(part(sheet, place), oracle.at_place(sheet, place))
            self.assertIsNot(places(sheet), found)

    def test_parts_in_order(self):
        number, item, inner = ("width", 1), ("width", 2), ("width", 3)
        sheet = ("a", (("a", ("counted", number, ("sized", item, ("until", "1", ("checked", ONE, ("times", 2, inner)))))),))
        self.assertEqual(part(sheet, ("a", (0,))), number)
        self.assertEqual(part(sheet, ("a", (1, 0))), item)
        self.assertEqual(part(sheet, ("a", (1, 1, 0, 0, 0))), inner)

    def test_wrong_places(self):
        for place in [
            ("tree", (2,)), ("tree", (-1,)), ("tree", (True,)), ("tree", (0, 0)), ("other", ()), ("other", (0,)), ("tree", [0]), ("tree",), "tree",
            ["tree", ()], ("tree", (), ()), (("tree",), ()), (SubStr("tree"), ()), ("tree", SubTuple()), ("tree", (SubInt(0),)),
            ("tree", (None,)), ("tree", "0"), ("tree", (10 ** 89,)), ([], ()),
        ] + ANY_VALUES:
            with self.assertRaises(InvalidPlace, msg=repr(place)[:99]):
                part(TREE, place)

    def test_sheet_comes_first(self):
        for value in ANY_VALUES:
            with self.assertRaises(InvalidSheet):
                places(value)
            with self.assertRaises(InvalidSheet):
                part(sheet=value, place=value)


if __name__ == "__main__":
    unittest.main()
