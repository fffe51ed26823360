"""[9], [10]: sheets made from sheets."""

import copy
import unittest

from tests import oracle
from tests.examples import ANY_VALUES, BOX, PAIR, TREE, SubStr, SubTuple
from termsonwires.changes import changed, grafted, inlined, lifted, renamed, rooted, trimmed, unrolled
from termsonwires.errors import InvalidCount, InvalidName, InvalidNames, InvalidPlace, InvalidSheet, InvalidTerm
from termsonwires.errors import NoRef, TooMany
from termsonwires.forms import is_sheet, part, places

EMPTY = ("bits", "")


def wrapped(term, times):
    for _ in range(times):
        term = ("row", (term,))
    return term


class Same:
    """Equal to any value; shows that an error comes ahead of later parameters."""


class ChangesTest(unittest.TestCase):
    def fails(self, error, call, *args, count=None, **named):
        with self.assertRaises(error) as caught:
            call(*args, **named)
        self.assertIs(type(caught.exception), error)
        if count is not None:
            self.assertEqual(caught.exception.count, count)

    def test_rooted(self):
        self.assertEqual(rooted(PAIR, "c"), ("c", PAIR[1]))
        self.assertEqual(rooted(sheet=PAIR, name="a"), PAIR)
        for name in ANY_VALUES + ["d", SubStr("b")]:
            if name != "a" or isinstance(name, SubStr):
                self.fails(InvalidName, rooted, PAIR, name)
        self.fails(InvalidSheet, rooted, 1, 1)

    def test_trimmed(self):
        self.assertEqual(trimmed(PAIR), ("a", PAIR[1][:2]))
        self.assertEqual(trimmed(rooted(PAIR, "c")), ("c", PAIR[1][1:]))
        self.assertEqual(trimmed(rooted(PAIR, "b")), ("b", PAIR[1][1:2]))
        self.assertEqual(trimmed(rooted(BOX, "tree")), TREE)
        far = ("a", (("a", ("counted", ("ref", "d"), ("times", 0, ("ref", "b")))), ("b", EMPTY), ("c", EMPTY), ("d", ("ref", "b"))))
        self.assertEqual(trimmed(far), ("a", (far[1][0], far[1][1], far[1][3])))
        self.fails(InvalidSheet, trimmed, [])

    def test_lifted(self):
        self.assertEqual(lifted(PAIR, ("a", (1,)), "bb"), ("a", (
            ("a", ("row", (("ref", "b"), ("ref", "bb")))), PAIR[1][1], ("bb", ("width", 1)), PAIR[1][2])))
        self.assertEqual(lifted(TREE, ("tree", ()), "a"), ("tree", (("a", TREE[1][0][1]), ("tree", ("ref", "a")))))
        self.assertEqual(lifted(PAIR, ("c", ()), "d")[1][2:], (("c", ("ref", "d")), ("d", ("ref", "b"))))
        self.fails(InvalidPlace, lifted, PAIR, ("a", (2,)), "b")
        for name in ["a", "b", "", "A", None, 1, "abcdefghijklm", SubStr("z"), ("d",)]:
            self.fails(InvalidName, lifted, PAIR, ("a", (0,)), name)
        self.fails(InvalidSheet, lifted, None, None, None)

    def test_inlined(self):
        self.assertEqual(inlined(PAIR, ("a", (0,)))[1][0], ("a", ("row", (("bits", "01"), ("width", 1)))))
        self.assertEqual(part(inlined(TREE, ("tree", (1, 0))), ("tree", (1, 0))), TREE[1][0][1])
        self.assertEqual(inlined(PAIR, ("c", ())), ("a", PAIR[1][:2] + (("c", ("bits", "01")),)))
        loop = ("a", (("a", ("ref", "a")),))
        self.assertEqual(inlined(loop, ("a", ())), loop)
        self.fails(NoRef, inlined, PAIR, ("a", (1,)))
        self.fails(NoRef, inlined, PAIR, ("a", ()))
        self.fails(InvalidPlace, inlined, PAIR, ("a", (0, 0)))
        self.fails(InvalidSheet, inlined, 0, 0)
        for first, second in [(5, 6), (10, 1), (11, 0), (0, 11)]:
            sheet = ("a", (("a", wrapped(("ref", "b"), first)), ("b", wrapped(("row", ()), second))))
            self.assertTrue(is_sheet(inlined(sheet, ("a", (0,) * first))))
            sheet = ("a", (("a", wrapped(("ref", "b"), first)), ("b", wrapped(("row", ()), min(11, second + 1)))))
            if second < 11:
                self.fails(TooMany, inlined, sheet, ("a", (0,) * first), count=12)

    def test_changed(self):
        self.assertEqual(changed(PAIR, ("a", (0,)), EMPTY)[1][0], ("a", ("row", (EMPTY, ("width", 1)))))
        self.assertEqual(changed(TREE, ("tree", ()), EMPTY), ("tree", (("tree", EMPTY),)))
        for term in ANY_VALUES + [("ref", "b"), ("row", (("ref", "a"),)), ("width", 9), wrapped(EMPTY, 12)]:
            self.fails(InvalidTerm, changed, PAIR, ("a", (0,)), term)
        self.fails(InvalidPlace, changed, PAIR, ("z", ()), 0)
        self.fails(InvalidSheet, changed, 0, 0, 0)
        self.assertTrue(is_sheet(changed(PAIR, ("a", (0,)), wrapped(EMPTY, 10))))
        self.fails(TooMany, changed, PAIR, ("a", (0,)), wrapped(EMPTY, 11), count=12)
        deep = ("a", (("a", wrapped(EMPTY, 11)), ("b", wrapped(EMPTY, 11))))
        self.assertEqual(changed(deep, ("a", (0,) * 11), ("row", ()))[1][1], deep[1][1])
        self.fails(TooMany, changed, deep, ("a", (0,) * 11), ("row", (EMPTY,)), count=12)

    def test_changed_in_each_kind_of_part(self):
        machine = ((0, 0, "1"),)
        for term, path in [
            (("row", (EMPTY, EMPTY)), (1,)), (("either", (("x", "0", EMPTY), ("y", "1", EMPTY))), (1,)),
            (("times", 3, EMPTY), (0,)), (("counted", EMPTY, EMPTY), (0,)), (("counted", EMPTY, EMPTY), (1,)),
            (("until", "1", EMPTY), (0,)), (("sized", EMPTY, EMPTY), (0,)), (("sized", EMPTY, EMPTY), (1,)),
            (("checked", machine, EMPTY), (0,)),
        ]:
            sheet = ("a", (("a", term),))
            new = changed(sheet, ("a", path), ("width", 3))
            self.assertEqual(part(new, ("a", path)), ("width", 3))
            self.assertEqual(repr(new).replace("'width', 3", "'bits', ''"), repr(sheet))

    def test_grafted(self):
        other = ("y", (("x", EMPTY), ("y", ("ref", "x"))))
        self.assertEqual(grafted(PAIR, ("a", (1,)), other), ("a", (
            ("a", ("row", (("ref", "b"), ("ref", "y")))), PAIR[1][1], PAIR[1][2], other[1][0], other[1][1])))
        self.assertEqual(grafted(other, ("y", ()), PAIR)[1], PAIR[1] + (("x", EMPTY), ("y", ("ref", "a"))))
        self.fails(InvalidNames, grafted, PAIR, ("a", (1,)), PAIR)
        self.fails(InvalidNames, grafted, PAIR, ("a", (1,)), ("q", (("b", EMPTY), ("q", EMPTY))))
        self.fails(InvalidSheet, grafted, PAIR, ("a", (1,)), 1)
        self.fails(InvalidPlace, grafted, PAIR, ("a", (7,)), 1)
        self.fails(InvalidSheet, grafted, 1, ("a", (7,)), TREE)

    def test_renamed(self):
        self.assertEqual(renamed(PAIR, ()), PAIR)
        swapped = renamed(PAIR, (("a", "b"), ("b", "a")))
        self.assertEqual(swapped, ("b", (
            ("a", ("bits", "01")), ("b", ("row", (("ref", "a"), ("width", 1)))), ("c", ("ref", "a")))))
        self.assertEqual(renamed(PAIR, (("b", "zz"),)), ("a", (
            ("a", ("row", (("ref", "zz"), ("width", 1)))), ("c", ("ref", "zz")), ("zz", ("bits", "01")))))
        self.assertEqual(renamed(PAIR, (("c", "c"),)), PAIR)
        self.assertEqual(renamed(PAIR, (("b", "a"), ("a", "c"), ("c", "b")))[0], "c")
        for pairs in [
            (("a", "b"),), (("a", "x"), ("b", "x")), (("a", "x"), ("a", "y")), (("d", "e"),), (("a", "A"),), (("a", ""),),
            [("a", "x")], (["a", "x"],), (("a",),), (("a", "x", "y"),), ("a", "x"), (("a", 1),), ((1, "a"),), None, "ab", ("ab",),
            ((SubStr("a"), "x"),), (("a", SubStr("x")),), SubTuple(), (("a", "abcdefghijklm"),), (("a", "c"), ("b", "d")),
            (("a", "x"), ("a", "x")), ((["a"], "x"),),
        ]:
            self.fails(InvalidNames, renamed, PAIR, pairs)
        self.fails(InvalidSheet, renamed, 0, 0)

    def test_unrolled(self):
        none = ("table", ())
        self.assertEqual(unrolled(PAIR, 0), ("n00", (
            ("n00", ("row", (none, ("width", 1)))), ("n01", ("bits", "01")), ("n02", none))))
        two = unrolled(rooted(PAIR, "b"), 2)
        self.assertEqual([two[0], [name for name, _ in two[1]]], ["n07", [f"n0{k}" for k in range(9)]])
        self.assertEqual(two[1][8], ("n08", ("ref", "n04")))
        self.assertEqual(two[1][3], ("n03", ("row", (("ref", "n01"), ("width", 1)))))
        self.assertEqual(unrolled(TREE, 99)[1][99][0], "n99")
        self.assertEqual(len(unrolled(PAIR, 32)[1]), 99)
        self.fails(TooMany, unrolled, PAIR, 33, count=100)
        self.fails(TooMany, unrolled, TREE, 100, count=100)
        self.fails(TooMany, unrolled, TREE, 10 ** 89, count=100)
        for depth in [-1, True, None, "1", (), 10 ** 89 * -1]:
            self.fails(InvalidCount, unrolled, TREE, depth)
        self.fails(InvalidSheet, unrolled, 0, -1)

    def test_any_value_for_each_parameter(self):
        for value in ANY_VALUES:
            for call in (rooted, lifted, inlined, changed, grafted, renamed, unrolled):
                with self.assertRaises(InvalidSheet):
                    call(*[value] * (3 if call in (lifted, changed, grafted) else 2))
            self.fails(InvalidPlace, lifted, TREE, value, "x")
            self.fails(InvalidPlace, grafted, TREE, value, TREE)
            if value != ():
                self.fails(InvalidNames, renamed, TREE, value)

    def test_words_are_kept(self):
        for sheet in oracle.sample_sheets(2, 60, depth=3):
            table = oracle.tables(sheet, 6, 6)
            for place in places(sheet):
                new = oracle.tables(lifted(sheet, place, "zz"), 6, 12)
                if oracle.tables(sheet, 6, 7) == table:
                    self.assertEqual({name: new[name] for name in table}, table)
            self.assertEqual(oracle.words(unrolled(sheet, 3), 6), oracle.words(sheet, 6, 4))

    def test_faulty_sheets_are_sheets_too(self):
        for sheet in oracle.sample_sheets(3, 80, clean=False):
            for place in places(sheet):
                self.assertTrue(is_sheet(lifted(sheet, place, "zz")))
                if part(sheet, place)[0] == "ref":
                    back = inlined(sheet, place)
                    self.assertEqual(part(back, place), dict(sheet[1])[part(sheet, place)[1]])
                    self.assertEqual(changed(back, place, EMPTY), changed(sheet, place, EMPTY))
            names = [name for name, _ in sheet[1]]
            turn = tuple(zip(names, names[1:] + names[:1]))
            turned_back = tuple((new, old) for old, new in turn)
            self.assertEqual(renamed(renamed(sheet, turn), turned_back), sheet)

    def test_arguments_stay(self):
        kept = copy.deepcopy((BOX, PAIR))
        inlined(BOX, ("tree", (1, 0)))
        grafted(BOX, ("p", ()), PAIR)
        self.assertEqual((BOX, PAIR), kept)


if __name__ == "__main__":
    unittest.main()
