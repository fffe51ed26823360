"""[15], [16]: rings, the shortest and least ones, bare ones, levels."""

import random
import unittest

from tests import judging, oracle
from tests.examples import ANY_VALUES, BOX, CODES, PAIR, TREE, SubList, SubStr, SubTuple
from termsonwires.changes import lifted
from termsonwires.errors import Endless, InvalidPlace, InvalidSheet
from termsonwires.rings import is_flat, is_ring, levels, ring

EMPTY = ("bits", "")
BIT = ("bits", "0")


def around(term):
    """A sheet of one entry with the term, its ref leading back."""
    return ("a", (("a", term),))


class RingsTest(unittest.TestCase):
    def test_examples(self):
        self.assertEqual([ring(TREE, ("tree", (1, 1))), ring(TREE, ("tree", (1, 1)), bare=True)], [[("tree", (1, 1))], None])
        self.assertEqual(levels(lifted(around(("times", 2, ("width", 1))), ("a", (0,)), "b")), [("a", 1), ("b", 0)])
        with self.assertRaises(Endless) as caught:
            levels(TREE)
        self.assertEqual(caught.exception.name, "tree")

    def test_bare_by_each_row(self):
        ref = ("ref", "a")
        machine = ((0, 0, "1"),)
        for term, path, bare in [
            (ref, (), True), (("row", (ref, BIT)), (0,), True), (("row", (BIT, ref)), (1,), False), (("row", (EMPTY, ref)), (1,), True),
            (("row", (("table", ()), ref)), (1,), False), (("row", (EMPTY, BIT, ref)), (2,), False), (("row", (EMPTY, ref, BIT)), (1,), True),
            (("either", (("x", "", ref),)), (0,), True), (("either", (("x", "0", ref),)), (0,), False),
            (("either", (("x", "0", BIT), ("y", "", ref))), (1,), True), (("times", 0, ref), (0,), True), (("times", 2, ref), (0,), True),
            (("counted", ref, BIT), (0,), True), (("counted", ("width", 1), ref), (1,), False), (("counted", ("width", 0), ref), (1,), True),
            (("counted", ("table", (("x", ""), (1, "0"))), ref), (1,), True), (("counted", EMPTY, ref), (1,), True), (("until", "1", ref), (0,), True),
            (("sized", ref, BIT), (0,), True), (("sized", ("width", 2), ref), (1,), False), (("sized", ("table", ((-1, ""),)), ref), (1,), True),
            (("sized", ("sized", ("width", 0), ("width", 0)), ref), (1,), True), (("checked", machine, ref), (0,), True),
            (("row", (BIT, ("times", 1, ref))), (1, 0), False), (("times", 1, ("row", (BIT, ref))), (0, 1), False),
            (("row", (("times", 0, BIT), ref)), (1,), True), (("row", (("until", "1", EMPTY), ref)), (1,), False),
            (("row", (("checked", machine, EMPTY), ref)), (1,), False),
        ]:
            sheet = around(term)
            place = ("a", path)
            self.assertEqual(ring(sheet, place), [place], term)
            self.assertEqual(ring(sheet, place, bare=True), [place] if bare else None, term)
            self.assertIs(is_ring(sheet, [place], bare=True), bare, term)
            self.assertIs(is_ring(sheet, [place, place, place]), True)
            self.assertIs(is_flat(sheet), False)

    def test_shortest_then_least(self):
        ways = ("row", (("ref", "b"), ("ref", "c"), ("ref", "b"), ("ref", "d")))
        sheet = ("a", (("a", ways), ("b", ("ref", "c")), ("c", ("row", (("ref", "b"), ("ref", "a"), ("ref", "a")))), ("d", EMPTY)))
        self.assertEqual(ring(sheet, ("a", (0,))), [("a", (0,)), ("b", ()), ("c", (1,))])
        self.assertEqual(ring(sheet, ("a", (1,))), [("a", (1,)), ("c", (1,))])
        self.assertEqual(ring(sheet, ("c", (2,))), [("c", (2,)), ("a", (1,))])
        self.assertEqual(ring(sheet, ("b", ())), [("b", ()), ("c", (0,))])
        self.assertIsNone(ring(sheet, ("a", (3,))))
        self.assertIsNone(ring(sheet, ("a", ())))
        self.assertIsNone(ring(sheet, ("d", ())))

    def test_against_search(self):
        chance = random.Random(8)
        sheets = [oracle.random_sheet(chance, depth=3, clean=False) for _ in range(150)]
        sheets += [oracle.ringed_sheet(chance, depth=3) for _ in range(150)]
        for sheet in sheets:
            refs = judging.refs_of(sheet)
            bare_refs = [ref for ref in refs if judging.is_bare(sheet, ref)]
            for place in oracle.all_places(sheet):
                for bare, counted in ((False, refs), (True, bare_refs)):
                    rings = sorted(judging.rings_from(sheet, counted, place, 3), key=lambda row: (len(row), row))
                    found = ring(sheet, place, bare)
                    self.assertEqual(found, rings[0] if rings else None)
                    for row in rings[:20]:
                        self.assertIs(is_ring(sheet, row, bare), True)
                        bent = row + [chance.choice(oracle.all_places(sheet))]
                        self.assertIs(is_ring(sheet, bent, bare), bent in judging.rings_from(sheet, counted, place, len(bent)))
            self.assertEqual(is_flat(sheet), all(ring(sheet, place) is None for place in refs))
            self.check_levels(sheet, refs)

    def check_levels(self, sheet, refs):
        ringed = sorted({ref[0] for ref in refs if judging.in_ring(sheet, refs, ref)})
        if ringed:
            with self.assertRaises(Endless) as caught:
                levels(sheet)
            self.assertEqual(caught.exception.name, ringed[0])
            return
        found = levels(sheet)
        self.assertEqual([name for name, _ in found], [name for name, _ in sheet[1]])
        for name, level in found:
            below = [dict(found)[judging.named(sheet, ref)] for ref in refs if ref[0] == name]
            self.assertEqual(level, 1 + max(below, default=-1))

    def test_no_rings(self):
        place = ("tree", (1, 0))
        for value in ANY_VALUES + [
            [], [()], (place,), [["tree", (1, 0)]], [("tree", (1,))], [("tree", (2,))], [place, ("tree", ())], [("tree", [1, 0])],
            SubList([place]), [SubTuple(place)], [(SubStr("tree"), (1, 0))], [("tree", (True, 0))], place, [place, None],
        ]:
            self.assertIs(is_ring(TREE, value), False, repr(value)[:60])
            self.assertIs(is_ring(TREE, value, True), False)
        self.assertIs(is_ring(TREE, [place, ("tree", (1, 1)), place]), True)
        self.assertIs(is_ring(BOX, [("p", (1,))]), False)
        self.assertIs(is_ring(BOX, [("p", (1,)), place]), False)

    def test_levels(self):
        self.assertEqual(levels(PAIR), [("a", 1), ("b", 0), ("c", 1)])
        self.assertEqual(levels(CODES), [("u", 0)])
        far = ("a", (("a", ("times", 0, ("row", (("ref", "c"), ("ref", "b"))))), ("b", BIT), ("c", ("counted", ("ref", "b"), ("ref", "d"))),
                     ("d", ("ref", "b"))))
        self.assertEqual(levels(far), [("a", 3), ("b", 0), ("c", 2), ("d", 1)])
        behind = ("a", (("a", ("ref", "c")), ("b", BIT), ("c", ("times", 0, ("ref", "d"))), ("d", ("ref", "c"))))
        with self.assertRaises(Endless) as caught:
            levels(sheet=behind)
        self.assertEqual(caught.exception.name, "c")

    def test_errors_in_order(self):
        for value in ANY_VALUES:
            for call in (ring, is_ring):
                with self.assertRaises(InvalidSheet):
                    call(value, value)
            for call in (is_flat, levels):
                with self.assertRaises(InvalidSheet):
                    call(value)
            with self.assertRaises(InvalidPlace):
                ring(TREE, place=value)
        with self.assertRaises(InvalidPlace):
            ring(TREE, ("tree", (2,)), True)


if __name__ == "__main__":
    unittest.main()
