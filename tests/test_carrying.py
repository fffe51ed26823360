"""[51]: what maps do with the things of sheets, against lists of all words and a second reading of maps."""

import random
import unittest

from tests import oracle, plainmaps
from tests.examples import ANY_VALUES, BOX, CODES, EVEN, TREE, SubInt
from termsonwires.carrying import misfit, unkept
from termsonwires.errors import Faulty, InvalidCount, InvalidMap, InvalidSheet, TooMany
from termsonwires.faults import faults
from termsonwires.maps import mapped, turned_map
from termsonwires.reading import read
from termsonwires.rules import rewritings, step_map
from termsonwires.things import is_thing, word_of

SAME = ("same",)
FAULTY = ("m", (("m", ("table", ((1, "0"), (2, "0")))),))
BIG = ("ways", tuple((f"l{k}", f"l{k}", SAME) for k in range(11)))
TOO_BIG = ("row", (BIG, BIG))


def one(term, *entries):
    return ("m", tuple(sorted((("m", term),) + entries)))


def map_for(chance, sheet, term, depth, gap):
    """A map of the form of the term's things; where gap is met by chance something is left out."""
    if depth == 0 or chance.random() < 0.15:
        return SAME
    inner = lambda part: map_for(chance, sheet, part, depth - 1, gap)
    if term[0] == "ref":
        return inner(dict(sheet[1])[term[1]])
    if term[0] in ("sized", "checked"):
        return inner(term[2])
    if term[0] == "row":
        return ("row", tuple(inner(part) for part in term[1]))
    if term[0] == "either":
        ways = [(label, label + "!", inner(part)) for label, _, part in term[1] if chance.random() > gap]
        return ("ways", tuple(ways))
    if term[0] in ("times", "until", "counted"):
        return ("each", inner(term[2]))
    if term[0] == "table":
        return ("table", tuple((atom, (k,)) for k, (atom, _) in enumerate(term[1]) if chance.random() > gap))
    if term[0] == "width":
        return ("table", tuple((k, k + 1) for k in range(2 ** term[1]) if chance.random() > gap))
    return chance.choice([SAME, ("table", (((), 0),)), ("pack", (0,)) if chance.random() < gap else SAME])


def some_sheets(seed, many):
    chance = random.Random(seed)
    sheets = [oracle.random_sheet(chance) for _ in range(many)] + [oracle.ringed_sheet(chance) for _ in range(many)]
    return chance, [sheet for sheet in sheets if not faults(sheet)]


class MisfitTest(unittest.TestCase):
    def test_against_lists(self):
        chance, sheets = some_sheets(51, 260)
        told = {True: 0, False: 0}
        for sheet in sheets:
            m = map_for(chance, sheet, ("ref", sheet[0]), 5, 0.12)
            if chance.random() < 0.3:
                m = ("after", m, plainmaps.random_map(chance, 1))
            try:
                thing = misfit(sheet, m)
            except TooMany:
                continue
            told[thing is None] += 1
            if thing is None:
                for other in oracle.words(sheet, 9):
                    self.assertIsNot(plainmaps.given(m, other), plainmaps.UNFIT, (sheet, m, other))
            else:
                self.assertTrue(is_thing(sheet, thing), (sheet, m, thing))
                self.assertIs(plainmaps.given(m, thing), plainmaps.UNFIT, (sheet, m, thing))
        self.assertGreater(min(told.values()), 60)

    def test_rings(self):
        both = ("ways", (("leaf", "l", SAME), ("node", "n", ("row", (SAME, SAME)))))
        self.assertIsNone(misfit(TREE, both))
        self.assertIsNone(misfit(BOX, both))
        deep = SAME
        for k in range(3):
            deep = ("ways", (("leaf", "l", SAME), ("node", "n", ("row", (deep, SAME)))))
        self.assertIsNone(misfit(TREE, deep))
        leaf = ("ways", (("leaf", "leaf", SAME),))
        for mapping in (leaf, ("ways", (("node", "n", SAME),)), ("ways", (("leaf", "l", SAME), ("node", "n", ("row", (both, leaf))))), ("table", ())):
            thing = misfit(TREE, mapping)
            self.assertTrue(is_thing(TREE, thing))
            self.assertIs(plainmaps.given(mapping, thing), plainmaps.UNFIT)

    def test_sizes_bound_what_there_is(self):
        """In a sized term a thing that does not fit must have one of the told lengths."""
        leaf = ("ways", (("leaf", "l", SAME),))
        three = one(("sized", ("table", ((3, ""),)), ("ref", "tree")), TREE[1][0])
        seven = one(("sized", ("table", ((7, ""),)), ("ref", "tree")), TREE[1][0])
        self.assertIsNone(misfit(three, leaf))
        self.assertEqual(word_of(seven, misfit(seven, leaf)).__len__(), 7)
        items = ("until", "1", ("table", (("a", "00"), ("b", "01"))))
        only = ("each", ("table", (("a", 1),)))
        self.assertIsNone(misfit(one(("sized", ("table", ((1, ""),)), items)), only))
        self.assertIn("b", misfit(one(("sized", ("table", ((5, ""),)), items)), only))

    def test_any_number_of_items(self):
        rows = ("until", "1", ("table", (("a", "00"), ("b", "01"))))
        pairs = ("rules", ((("tuple", (("any", 0), ("any", 1))), ("tuple", (("any", 0), ("any", 1)))), (("tuple", ()), ("atom", 0))))
        self.assertIn(len(misfit(one(rows), pairs)), (1, 3))
        self.assertIsNone(misfit(one(rows), ("each", ("table", (("a", "b"), ("b", "a"))))))
        some = ("rules", ((("each", 0, ((("atom", "a"), ("atom", "a")),)), ("each", 0)),))
        self.assertIn("b", misfit(one(rows), some))
        self.assertIsNone(misfit(one(("counted", ("width", 0), ("width", 1))), ("table", (((), ()),))))
        self.assertEqual(len(misfit(one(("counted", ("width", 1), ("width", 1))), ("table", (((), ()),)))), 1)
        self.assertIsNone(misfit(one(("row", (("bits", "1"), ("table", ())))), ("table", ())))

    def test_bounded_numbers_of_items(self):
        """In a sized term an until has just the numbers of items that its sizes leave."""
        items = ("until", "1", ("bits", "0"))
        shapes = {0: ("tuple", ()), 1: ("tuple", (("any", 0),)), 2: ("tuple", (("any", 0), ("any", 1)))}
        for sizes in ((1,), (2,), (1, 2), (1, 3), (2, 3), (1, 2, 3)):
            sheet = one(("sized", ("table", tuple((n, code) for n, code in zip(sizes, ("00", "01", "1")))), items))
            for many in ((0,), (1,), (2,), (1, 0), (2, 0), (2, 1), (2, 1, 0)):
                mapping = ("rules", tuple(sorted(((shapes[k], ("tuple", shapes[k][1] + (("atom", k),))) for k in many), key=lambda rule: plainmaps.text(rule[0]))))
                left = [n - 1 for n in sizes if n - 1 not in many]
                thing = misfit(sheet, mapping)
                self.assertEqual(thing is None, left == [], (sizes, many))
                if left:
                    self.assertIn(len(thing), left)

    def test_errors_in_their_order(self):
        for bad in ANY_VALUES:
            with self.assertRaises(InvalidSheet):
                misfit(bad, bad)
            with self.assertRaises(InvalidMap):
                misfit(TREE, bad)
        with self.assertRaises(Faulty) as caught:
            misfit(FAULTY, None)
        self.assertEqual(caught.exception.faults, [("m", (), "tags")])
        with self.assertRaises(TooMany) as caught:
            misfit(TREE, TOO_BIG)
        self.assertEqual(caught.exception.count, 100)


class UnkeptTest(unittest.TestCase):
    def test_against_lists(self):
        chance, sheets = some_sheets(52, 150)
        told = {True: 0, False: 0}
        for sheet in sheets:
            m = map_for(chance, sheet, ("ref", sheet[0]), 5, 0.05)
            other = chance.choice(sheets + [sheet] * len(sheets))
            m = chance.choice([m, SAME, SAME])
            most = chance.randint(0, 8)
            others = oracle.words(other, most)
            expected = None
            for word, thing in sorted(((word, thing) for thing, word in oracle.words(sheet, most).items()), key=lambda row: (len(row[0]), row[0])):
                given = plainmaps.given(m, thing)
                if given is plainmaps.UNFIT or others.get(given) != word:
                    expected = thing
                    break
            self.assertEqual(unkept(sheet, m, other, most=most), expected, (sheet, m, other, most))
            told[expected is None] += 1
        self.assertGreater(min(told.values()), 40)

    def test_each_way_to_be_unkept(self):
        ab = one(("table", (("a", "0"), ("b", "10"), ("c", "11"))))
        self.assertEqual(unkept(ab, ("table", (("a", "a"), ("c", "c"))), ab), "b")
        self.assertEqual(unkept(ab, ("table", (("a", "a"), ("b", "x"), ("c", "c"))), ab), "b")
        self.assertEqual(unkept(ab, ("table", (("a", "a"), ("b", "c"), ("c", "b"))), ab), "b")
        self.assertIsNone(unkept(ab, SAME, ab))
        self.assertIsNone(unkept(ab, ("table", (("a", "a"),)), ab, most=1))
        self.assertIsNone(unkept(ab, ("table", ()), ab, most=0))
        self.assertEqual(unkept(one(("bits", "")), ("table", ()), ab, most=0), ())

    def test_most(self):
        long = one(("table", (("a", "0" * 8), ("b", "1" * 9))))
        other = one(("table", (("a", "0" * 8),)))
        self.assertIsNone(unkept(long, SAME, other))
        self.assertEqual(unkept(long, SAME, other, most=9), "b")
        self.assertEqual(unkept(one(("width", 8)), SAME, one(("row", (("width", 8),))), most=12), 0)
        twelve = one(("row", (("width", 8), ("width", 4))))
        self.assertIsNone(unkept(twelve, SAME, twelve, most=12))

    def test_errors_in_their_order(self):
        for bad in ANY_VALUES:
            with self.assertRaises(InvalidSheet):
                unkept(TREE, bad, bad, most=bad)
            with self.assertRaises(InvalidSheet):
                unkept(bad, SAME, FAULTY)
            with self.assertRaises(InvalidSheet):
                unkept(FAULTY, SAME, bad)
            with self.assertRaises(InvalidMap):
                unkept(TREE, bad, TREE, most=bad)
        for bad in (13, -1, True, None, "8", SubInt(8), 10 ** 80):
            with self.assertRaises(InvalidCount):
                unkept(TREE, SAME, TREE, most=bad)
            with self.assertRaises(InvalidMap):
                unkept(TREE, None, TREE, most=bad)
        both = one(("either", (("a", "", SAME_TERM), ("b", "", SAME_TERM))))
        with self.assertRaises(Faulty) as caught:
            unkept(FAULTY, None, both)
        self.assertEqual(caught.exception.faults, [("m", (), "tags")])
        with self.assertRaises(Faulty):
            unkept(TREE, None, FAULTY, most=-1)
        with self.assertRaises(TypeError):
            unkept(TREE, SAME, TREE, 8)

    def test_kept_both_ways(self):
        """J8."""
        a = one(("either", (("x", "0", ("width", 2)), ("y", "1", ("bits", "01")))))
        b = one(("either", (("u", "0", ("row", (("width", 2),))), ("v", "10", ("bits", "1")))))
        m = ("ways", (("x", "u", ("wrap",)), ("y", "v", SAME)))
        self.assertIsNone(unkept(a, m, b))
        self.assertIsNone(unkept(b, turned_map(m), a))
        for bits in oracle.all_bits(5):
            one_told, other_told = read(a, bits), read(b, bits)
            if one_told[0] == "thing":
                one_told = ("thing", mapped(m, one_told[1]), one_told[2])
            self.assertEqual(one_told, other_told)

    def test_one_behind_the_other(self):
        """J9, J10."""
        term = ("either", (("p", "01", ("row", (("bits", "1"), ("width", 1)))), ("q", "00", ("times", 1, ("width", 1))), ("r", "1", ("table", ()))))
        seen, maps = [term], []
        while rewritings(seen[-1]):
            path, rule, new = rewritings(seen[-1])[0]
            m = step_map(seen[-1], path, rule)
            self.assertIsNone(misfit(one(seen[-1]), m))
            self.assertIsNone(unkept(one(seen[-1]), m, one(new)))
            self.assertIsNone(unkept(one(new), turned_map(m), one(seen[-1])))
            seen.append(new)
            maps.append(m)
        whole = maps[0]
        for m in maps[1:]:
            whole = ("after", whole, m)
        self.assertGreater(len(maps), 3)
        self.assertIsNone(unkept(one(term), whole, one(seen[-1])))

    def test_examples(self):
        self.assertIsNone(misfit(TREE, ("ways", (("leaf", "l", SAME), ("node", "n", ("row", (SAME, SAME)))))))
        for sheet in (CODES, EVEN, BOX, TREE):
            self.assertIsNone(unkept(sheet, SAME, sheet, most=11))


SAME_TERM = ("bits", "1")


if __name__ == "__main__":
    unittest.main()
