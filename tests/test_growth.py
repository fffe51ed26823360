"""[22], [23]: growth or ceiling, never both."""

import random
import unittest

from tests import oracle
from tests.examples import ANY_VALUES, BOX, CODES, EVEN, TREE, SubInt, SubList, SubStr, SubTuple
from termsonwires.errors import Faulty, InvalidSheet
from termsonwires.faults import faults
from termsonwires.growth import ceiling, growth, is_ceiling, is_growth, most_length
from termsonwires.lengths import least_length

EMPTY = ("bits", "")
NO = ("table", ())
FAULTY = ("m", (("m", ("table", ((1, "0"), (2, "0")))),))
MACHINE = ((0, 0, "011"),)


def one(term, *entries):
    return ("m", tuple(sorted((("m", term),) + entries)))


class GrowthTest(unittest.TestCase):
    def test_examples(self):
        self.assertEqual([growth(CODES), ceiling(BOX), most_length(TREE)], [[("u", ())], [("p", 10)], None])

    def grows(self, sheet):
        found = growth(sheet)
        self.assertIs(is_growth(sheet, found), True, sheet)
        self.assertEqual([ceiling(sheet), most_length(sheet)], [None, None])
        return found

    def stays(self, sheet, most):
        self.assertEqual([growth(sheet), most_length(sheet)], [None, most], sheet)
        if most is not None:
            self.assertIs(is_ceiling(sheet, ceiling(sheet)), True)
            self.assertEqual(dict(ceiling(sheet))[sheet[0]], most)

    def test_each_step(self):
        until = ("until", "1", ("bits", "0"))
        for term, path in [
            (until, ()), (("row", (("width", 1), until)), (1,)), (("either", (("a", "0", NO), ("b", "1", until))), (1,)), (("checked", MACHINE, until), (0,)),
            (("times", 1, until), (0,)), (("counted", ("width", 1), until), (1,)),
        ]:
            sheet = one(term)
            found = self.grows(sheet)
            self.assertEqual(found, [("m", path[:k]) for k in range(len(path) + 1)])
        sheet = one(("ref", "n"), ("n", until))
        self.assertEqual(self.grows(sheet), [("m", ()), ("n", ())])
        for term, most in [
            (("row", (NO, until)), None), (("times", 0, until), 0), (("counted", ("table", ((0, "01"),)), until), 2), (("counted", NO, until), None),
            (("until", "1", NO), 1), (("sized", ("width", 3), until), 10), (("sized", ("width", 1), until), 2), (("either", ()), None),
            (("either", (("a", "0", ("row", (NO, until))), ("b", "11", EMPTY))), 2), (("checked", MACHINE, ("times", 0, until)), 3),
            (("counted", ("table", ((0, "0"), (5, "1"))), NO), 1), (("counted", ("table", ((5, "1"),)), NO), None),
        ]:
            self.stays(one(term), most)
            self.assertIs(is_growth(one(term), [("m", ())]), False)

    def test_rings(self):
        self.assertEqual(self.grows(TREE), [("tree", ()), ("tree", (1,)), ("tree", (1, 0)), ("tree", ())])
        self.stays(one(("row", (("bits", "1"), ("ref", "m")))), None)
        self.stays(one(("either", (("a", "0", EMPTY), ("b", "1", ("row", (NO, ("ref", "m"))))))), 1)
        self.stays(one(("either", (("a", "0", EMPTY), ("b", "1", ("times", 0, ("ref", "m")))))), 1)
        far = ("a", (("a", ("row", (("bits", "0"), ("ref", "b")))), ("b", ("either", (("x", "0", ("ref", "c")), ("y", "1", EMPTY)))), ("c", ("ref", "b"))))
        found = self.grows(far)
        self.assertEqual(found[-1], ("b", ()))
        self.assertEqual(found.count(("b", ())), 2)

    def test_rings_without_words_do_not_grow(self):
        sheet = one(("either", (("a", "0", EMPTY), ("b", "1", ("ref", "n")))), ("n", ("row", (("bits", "1"), ("ref", "n")))))
        ring = [("m", ()), ("m", (1,)), ("n", ()), ("n", (1,)), ("n", ())]
        self.assertIs(is_growth(sheet, ring), False)
        self.stays(sheet, 1)

    def test_ceilings_beside_rings(self):
        back = ("either", (("x", "0", ("bits", "00")), ("y", "1", ("times", 0, ("ref", "a")))))
        sheet = ("a", (("a", ("row", (("ref", "b"), ("bits", "1")))), ("b", ("row", (("bits", "0"), ("ref", "c")))), ("c", back)))
        self.stays(sheet, 5)
        self.assertEqual(ceiling(sheet), [("a", 5), ("b", 4), ("c", 3)])
        wordless = ("a", (("a", ("row", (("ref", "b"), ("bits", "1")))), ("b", ("counted", ("table", ((0, "01"),)), ("ref", "a")))))
        self.stays(wordless, 3)
        self.assertEqual(ceiling(wordless), [("a", 3), ("b", 2)])

    def test_no_growths(self):
        tree = [("tree", ()), ("tree", (1,)), ("tree", (1, 0)), ("tree", ())]
        self.assertIs(is_growth(TREE, tree), True)
        self.assertIs(is_growth(TREE, [("tree", ()), ("tree", (1,)), ("tree", (1, 1)), ("tree", ())]), True)
        for value in ANY_VALUES + [
            [], tree[:3], tree[1:], tree + tree[1:], tree + tree[1:2], tuple(tree), tree[:2] + tree[3:], [("tree", ()), ("tree", (0,))], [list(row) for row in tree],
            SubList(tree), [SubTuple(row) for row in tree], [(SubStr("tree"), ())] + tree[1:], [("tree", ()), ("tree", (1,)), ("tree", (1, 2)), ("tree", ())],
            [("p", ())], tree[:3] + [None], tree[:1], tree[:3] + [("tree", (1,))], [("tree", ()), ("tree", (True,))] + tree[2:],
        ]:
            self.assertIs(is_growth(TREE, value), False, repr(value)[:60])
        tails = one(("row", (("until", "1", ("bits", "0")), ("until", "1", ("bits", "0")))))
        self.assertIs(is_growth(tails, [("m", ()), ("m", (0,))]), True)
        self.assertIs(is_growth(tails, [("m", ()), ("m", (1,))]), True)
        self.assertIs(is_growth(tails, [("m", ()), ("m", (1,)), ("m", (1, 0))]), False)
        self.assertIs(is_growth(tails, [("m", (1,))]), False)

    def test_ceilings(self):
        self.assertEqual(ceiling(one(("times", 3, ("ref", "n")), ("n", ("width", 5)))), [("m", 15), ("n", 5)])
        sheet = one(("row", (("times", 0, ("ref", "o")), ("ref", "n"), ("sized", ("width", 3), ("ref", "o")))), ("n", ("table", (("a", "0"), ("b", "111")))),
                    ("o", ("until", "1", ("bits", "0"))))
        self.assertEqual(ceiling(sheet), [("m", 13), ("n", 3)])
        good = [("m", 13), ("n", 3)]
        self.assertIs(is_ceiling(sheet, good), True)
        self.assertIs(is_ceiling(sheet, [("m", 10 ** 30), ("n", 3)]), True)
        self.assertIs(is_ceiling(sheet, [("m", 14), ("n", 4)]), True)
        for value in ANY_VALUES + [
            [], good[1:], good[:1], good[::-1], [("m", 13), ("n", 2)], [("m", 12), ("n", 3)], [("m", 13), ("n", 4)], tuple(good), [["m", 13], ("n", 3)],
            good + [("o", 5)], good + good[1:], [("m", 13, 0), ("n", 3)], [("m", True), ("n", 3)], [("m", SubInt(13)), ("n", 3)], [(SubStr("m"), 13), ("n", 3)],
            SubList(good), [SubTuple(good[0]), good[1]], [("m", 13), ("n", 3), ("z", 1)], [("m", 13), ("n", None)], [("m", -1), ("n", 3)], [("m", "13"), ("n", 3)],
        ]:
            self.assertIs(is_ceiling(sheet, value), False, repr(value)[:60])
        empty = one(("row", (NO,)), ("n", EMPTY))
        self.assertIs(is_ceiling(empty, [("m", 5)]), False)
        self.assertIs(is_ceiling(one(EMPTY, ("n", NO)), [("m", 0), ("n", 9)]), False)
        self.assertIs(is_ceiling(one(EMPTY, ("n", ("bits", "1"))), [("m", 0), ("n", 1)]), True)
        self.assertIs(is_ceiling(TREE, [("tree", 99)]), False)

    def test_long_words(self):
        sheet = one(("times", 8, ("counted", ("width", 3), ("row", (("bits", "0" * 60), ("ref", "n"))))), ("n", ("times", 1, ("bits", "1" * 40))))
        self.stays(sheet, 8 * (3 + 7 * 100))
        self.assertEqual(ceiling(sheet), [("m", 5624), ("n", 40)])

    def test_either_growth_or_ceiling(self):
        chance = random.Random(30)
        for sheet in [oracle.random_sheet(chance) for _ in range(250)] + [oracle.ringed_sheet(chance) for _ in range(250)]:
            if faults(sheet):
                continue
            found, top = growth(sheet), ceiling(sheet)
            if least_length(sheet) is None:
                self.assertEqual([found, top, most_length(sheet)], [None, None, None])
                continue
            self.assertNotEqual(found is None, top is None, sheet)
            if found is not None:
                self.check_growth(sheet, found)
            else:
                self.check_ceiling(sheet, top)

    def check_growth(self, sheet, found):
        self.assertIs(is_growth(sheet, found), True, sheet)
        self.assertIsNone(most_length(sheet))
        for k in range(1, len(found)):
            self.assertIs(is_growth(sheet, found[:k]), False)

    def check_ceiling(self, sheet, top):
        self.assertIs(is_ceiling(sheet, top), True, sheet)
        true = oracle.tables(sheet, 9)
        for k, (name, number) in enumerate(top):
            longest = max([len(word) for word in true[name].values()], default=0)
            self.assertTrue(longest == number if number <= 9 else longest <= number, (sheet, top))
            self.assertIs(is_ceiling(sheet, top[:k] + top[k + 1:]), False)
            self.assertIs(is_ceiling(sheet, top[:k] + [(name, number - 1)] + top[k + 1:]), False)
        self.assertEqual(most_length(sheet), dict(top)[sheet[0]])

    def test_errors_in_order(self):
        for call in (growth, ceiling, most_length, lambda sheet: is_growth(sheet, sheet), lambda sheet: is_ceiling(sheet, sheet)):
            for value in ANY_VALUES:
                with self.assertRaises(InvalidSheet):
                    call(value)
            with self.assertRaises(Faulty) as caught:
                call(FAULTY)
            self.assertEqual(caught.exception.faults, [("m", (), "tags")])
        self.assertIsNot(ceiling(EVEN), ceiling(EVEN))
        self.assertIs(is_growth(sheet=CODES, value=growth(sheet=CODES)), True)


if __name__ == "__main__":
    unittest.main()
