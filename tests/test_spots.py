"""[71], [72]: spots of things, and whether they are fixed, against lists of things and a walk along the terms."""

import random
import unittest

from tests import oracle, plainspots
from tests.examples import ANY_VALUES, BOX, CODES, EVEN, TREE, SubInt, SubTuple
from termsonwires.errors import Faulty, InvalidSheet, InvalidSpot, InvalidThing, NoSpot, NotFixed
from termsonwires.faults import faults
from termsonwires.spots import place_by, spot_sizes, spot_stretch, spot_thing, two_places
from termsonwires.things import is_thing, layout, word_of

W1, W2 = ("width", 1), ("width", 2)
SIZED = ("sized", ("width", 2), ("until", "1", ("bits", "0")))
FAULTY = ("m", (("m", ("table", ((1, "0"), (2, "0")))),))


def one(term, *entries):
    return ("m", tuple(sorted((("m", term),) + entries)))


def some_sheets(seed, many):
    chance, found = random.Random(seed), []
    while len(found) < many:
        sheet = chance.choice([oracle.random_sheet, oracle.ringed_sheet])(chance) if chance.random() < 0.3 else one(plainspots.sized_term(chance, 4))
        if not faults(sheet) and 0 < len(oracle.words(sheet, 12)) <= 800:
            found.append(sheet)
    return chance, found


class SpotTest(unittest.TestCase):
    def test_against_a_walk(self):
        chance, sheets = some_sheets(71, 120)
        for sheet in sheets:
            things = sorted(oracle.words(sheet, 12), key=repr)
            spots = {spot for thing in chance.sample(things, min(3, len(things))) for spot in plainspots.spots_of(sheet, thing, 5)}
            for spot in chance.sample(sorted(spots), min(5, len(spots))):
                for thing in chance.sample(things, min(12, len(things))):
                    self.judge(sheet, thing, spot)

    def judge(self, sheet, thing, spot):
        part = plainspots.part_at(sheet, thing, spot)
        if part is None:
            for call in (spot_stretch, spot_thing, spot_sizes):
                with self.assertRaises(NoSpot):
                    call(sheet, thing, spot)
            return
        start, end, inner, sizes = part
        self.assertEqual(spot_stretch(sheet, thing, spot), (start, end))
        self.assertEqual(spot_thing(sheet, thing, spot), inner)
        self.assertEqual(spot_sizes(sheet, thing, spot), sizes)
        self.assertIn((inner, start, end), [row[2:] for row in layout(sheet, thing)])

    def test_each_kind_of_term(self):
        term = ("row", (("either", (("x", "0", W1), ("y", "10", W2))), ("times", 2, W1), ("counted", W2, W2), ("until", "11", ("row", (("bits", "0"), W1))), SIZED, ("checked", ((0, 1, "0"), (1, 0, "1")), W2), ("ref", "r")))
        sheet = one(term, ("r", ("ref", "s")), ("s", ("row", (W1, ("ref", "t")))), ("t", ("sized", W2, W2)))
        thing = (("y", 3), (1, 0), (2, 3), (((), 1), ((), 0)), ((), ()), 2, (1, 3))
        for spot, stretch, inner, sizes in (
                ((), (0, 31), thing, ()), ((0,), (0, 4), ("y", 3), ()), ((0, 1), (2, 4), 3, ()), ((1,), (4, 6), (1, 0), ()), ((1, 1), (5, 6), 0, ()), ((2,), (6, 12), (2, 3), ()), ((2, 0), (8, 10), 2, ()), ((2, 1), (10, 12), 3, ()),
                ((3,), (12, 18), (((), 1), ((), 0)), ()), ((3, 1), (14, 16), ((), 0), ()), ((3, 1, 1), (15, 16), 0, ()), ((4,), (18, 23), ((), ()), ()), ((4, 1), (20, 23), ((), ()), (3,)), ((4, 1, 1), (21, 22), (), (3,)),
                ((5,), (23, 26), 2, (3,)), ((5, 0), (23, 25), 2, (3,)), ((6,), (26, 31), (1, 3), (3,)), ((6, 0), (26, 27), 1, (3,)), ((6, 1), (27, 31), 3, (3,)), ((6, 1, 1), (29, 31), 3, (3, 2))):
            self.assertEqual(spot_stretch(sheet, thing, spot), stretch, spot)
            self.assertEqual(spot_thing(sheet, thing, spot), inner)
            self.assertEqual(spot_sizes(sheet, thing, spot), sizes)
        for spot in ((7,), (0, 0), (0, 2), (0, 1, 0), (1, 2), (2, 2), (3, 2), (3, 0, 2), (4, 0), (4, 2), (4, 1, 2), (5, 1), (6, 2), (6, 1, 0), (10 ** 80,)):
            for call in (spot_stretch, spot_thing, spot_sizes):
                with self.assertRaises(NoSpot):
                    call(sheet, thing, spot)

    def test_sizes_of_parts_ahead(self):
        """Sized items ahead are told one by one, sized parts of other parts are not."""
        row = one(("row", (SIZED, ("row", (SIZED,)), ("ref", "s"), W1)), ("s", SIZED))
        thing = (((),), (((),),), ((), ()), 1)
        self.assertEqual(spot_sizes(row, thing, (3,)), (2, 3))
        self.assertEqual(spot_sizes(row, thing, (2,)), (2,))
        self.assertEqual(spot_sizes(row, thing, (2, 1)), (2, 3))
        self.assertEqual(spot_sizes(row, thing, (1, 0)), (2,))
        self.assertEqual(spot_sizes(row, thing, (1, 0, 1)), (2, 2))
        for term in (("times", 3, SIZED), ("counted", W2, SIZED), ("until", "001", SIZED)):
            if faults(one(term)):
                continue
            things = ((), ((),), ((), ()))
            self.assertEqual(spot_sizes(one(term), things, (2,)), (1, 2))
            self.assertEqual(spot_sizes(one(term), things, (2, 1)), (1, 2, 3))
            self.assertEqual(spot_sizes(one(term), things, (0,)), ())

    def test_errors_in_their_order(self):
        for bad in ANY_VALUES:
            for call in (spot_stretch, spot_thing, spot_sizes):
                with self.assertRaises(InvalidSheet):
                    call(bad, bad, bad)
                with self.assertRaises(Faulty):
                    call(FAULTY, bad, bad)
                if not is_thing(TREE, bad):
                    with self.assertRaises(InvalidThing):
                        call(TREE, bad, bad)
            for call in (lambda sheet, spot: two_places(sheet, spot), lambda sheet, spot: place_by(sheet, spot, bad)):
                with self.assertRaises(InvalidSheet):
                    call(bad, bad)
                with self.assertRaises(Faulty):
                    call(FAULTY, bad)
        for bad in [value for value in ANY_VALUES if type(value) is not tuple] + [[0], (True,), (-1,), ("0",), (None,), ((),), (SubInt(0),), SubTuple((0,)), (0.0,)]:
            for call in (lambda spot: spot_stretch(TREE, ("leaf", 1), spot), lambda spot: spot_thing(TREE, ("leaf", 1), spot), lambda spot: spot_sizes(TREE, ("leaf", 1), spot), lambda spot: two_places(TREE, spot), lambda spot: place_by(TREE, spot, ())):
                with self.assertRaises(InvalidSpot):
                    call(bad)


class FixedTest(unittest.TestCase):
    def test_against_lists(self):
        chance, sheets = some_sheets(72, 200)
        told = {True: 0, False: 0}
        for sheet in sheets:
            things = sorted(oracle.words(sheet, 12), key=repr)
            spots = {spot for thing in chance.sample(things, min(3, len(things))) for spot in plainspots.spots_of(sheet, thing, 6)}
            for spot in chance.sample(sorted(spots), min(4, len(spots))):
                two = two_places(sheet, spot)
                told[two is None] += 1
                starts = {}
                for thing in things:
                    part = plainspots.part_at(sheet, thing, spot)
                    if part is not None:
                        starts.setdefault(part[3], set()).add(part[0])
                if two is None:
                    self.judge_fixed(chance, sheet, spot, starts)
                else:
                    self.judge_open(sheet, spot, two)
        self.assertGreater(min(told.values()), 30)

    def judge_fixed(self, chance, sheet, spot, starts):
        for sizes, found in starts.items():
            self.assertEqual(len(found), 1, (sheet, spot, sizes))
            self.assertEqual(place_by(sheet, spot, sizes), min(found))
        sizes = list(chance.choice(sorted(starts)))
        for other in (tuple(sizes) + (0,), tuple(sizes)[:-1] if sizes else (1,), tuple(-1 for _ in sizes) + (1,) * (not sizes), sizes, None):
            with self.assertRaises(NoSpot):
                place_by(sheet, spot, other)

    def judge_open(self, sheet, spot, two):
        parts = [plainspots.part_at(sheet, thing, spot) for thing in two]
        self.assertTrue(type(two) is tuple and len(two) == 2 and all(is_thing(sheet, thing) for thing in two))
        self.assertEqual(parts[0][3], parts[1][3], (sheet, spot))
        self.assertNotEqual(parts[0][0], parts[1][0])
        for sizes in (parts[0][3], None):
            with self.assertRaises(NotFixed):
                place_by(sheet, spot, sizes)

    def test_frames(self):
        """The end of a frame tells where what stands behind an until begins."""
        items = ("until", "1", ("bits", "0"))
        self.assertIsNotNone(two_places(one(("row", (items, W2))), (1,)))
        framed = one(("sized", ("width", 3), ("row", (items, W2))))
        self.assertIsNone(two_places(framed, (1, 1)))
        self.assertEqual([place_by(framed, (1, 1), (n,)) for n in range(3, 8)], [3 + n - 2 for n in range(3, 8)])
        for sizes in ((2,), (0,), (8,), (3, 1), (), None, [3], (True,), ("3",), (3.0,), SubTuple((3,)), (SubInt(3),)):
            with self.assertRaises(NoSpot):
                place_by(framed, (1, 1), sizes)
        self.assertIsNotNone(two_places(one(("sized", ("width", 3), ("row", (items, items)))), (1, 1)))
        self.assertIsNone(two_places(one(("sized", ("table", ((2, "0"), )), ("row", (items, items)))), (1, 1)))
        self.assertIsNone(two_places(one(("sized", ("width", 3), ("row", (items, ("checked", ((0, 1, "0"), (1, 0, "1")), W1))))), (1, 1, 0)))

    def test_sized_parts_ahead(self):
        sheet = one(("row", (SIZED, W1, ("ref", "s"), W2)), ("s", SIZED))
        self.assertIsNone(two_places(sheet, (3,)))
        self.assertEqual(place_by(sheet, (3,), (2, 3)), 2 + 2 + 1 + 2 + 3)
        self.assertEqual(place_by(sheet, (3,), (1, 1)), 7)
        for sizes in ((0, 1), (1, 0), (4, 1), (1, 4), (1,), (1, 1, 1)):
            with self.assertRaises(NoSpot):
                place_by(sheet, (3,), sizes)
        self.assertIsNotNone(two_places(one(("row", (("row", (SIZED,)), W1))), (1,)))
        words = one(("counted", ("table", ((1, "0"), (2, "10"))), W1))
        self.assertIsNotNone(two_places(words, (0,)))
        self.assertIsNone(two_places(words, (1,)))
        self.assertEqual(place_by(words, (1,), ()), 3)

    def test_counted_number_by_number(self):
        """In a frame the number of a counted tells its head and what is left together."""
        inner = ("counted", ("table", ((1, "0"), (2, "10"))), W1)
        sheet = one(("sized", ("width", 3), inner))
        self.assertIsNone(two_places(sheet, (1, 0)))
        self.assertEqual([place_by(sheet, (1, 0), (n,)) for n in (2, 4)], [4, 5])
        with self.assertRaises(NoSpot):
            place_by(sheet, (1, 0), (3,))
        alike = ("counted", ("table", ((1, "000"), (3, "1"))), W1)
        self.assertIsNotNone(two_places(one(("sized", ("width", 3), alike)), (1, 0)))

    def test_long_words_count_too(self):
        long = one(("row", (("table", (("a", "0" * 50), ("b", "1" * 50))), W1)))
        self.assertIsNone(two_places(long, (1,)))
        self.assertEqual(place_by(long, (1,), ()), 50)
        longer = one(("row", (("table", (("a", "0" * 50), ("b", "1" * 51))), W1)))
        self.assertIsNotNone(two_places(longer, (1,)))

    def test_no_thing_has_it(self):
        for sheet, spot in (
                (TREE, (2,)), (TREE, (0, 0)), (TREE, (1, 2)), (BOX, (0,)), (BOX, (2,)), (EVEN, (1,)), (CODES, (0, 0)), (one(("times", 2, W1)), (2,)), (one(("counted", W1, W1)), (1,)), (one(("row", (W1, ("table", ())))), (0,)),
                (one(("either", (("x", "0", W1), ("y", "1", ("table", ()))))), (1,)), (one(("counted", W1, ("table", ()))), (0,)), (one(("until", "1", ("table", ()))), (0,)), (one(("table", ())), ()), (one(("sized", W1, W2)), (1,)),
                (one(("sized", W2, ("until", "1", ("bits", "00")))), (1, 1)), (one(("sized", ("table", ((40, ""),)), ("sized", W2, W1))), (1, 1))):
            with self.assertRaises(NoSpot):
                two_places(sheet, spot)
            for sizes in ((), None, (1,)):
                with self.assertRaises(NoSpot):
                    place_by(sheet, spot, sizes)
        self.assertIsNone(two_places(TREE, (1, 0)))
        self.assertIsNotNone(two_places(TREE, (1, 1)))
        self.assertIsNone(two_places(TREE, (1, 0, 1, 0, 1, 0, 1, 0)))
        self.assertEqual(place_by(TREE, (1, 0, 1, 0), ()), 2)

    def test_frames_inside_of_frames(self):
        items = ("until", "1", ("bits", "0"))
        inner = ("sized", ("table", ((1, "0"), (2, "10"), (3, "11"))), ("row", (items, W1)))
        sheet = one(("sized", ("width", 3), ("row", (items, inner))))
        self.assertIsNone(two_places(sheet, (1, 1, 1, 1)))
        self.assertEqual(place_by(sheet, (1, 1, 1, 1), (6, 2)), 3 + 2 + 2 + 1)
        self.assertEqual(place_by(sheet, (1, 1, 1, 1), (6, 3)), 3 + 1 + 2 + 2)
        for sizes in ((6, 1), (4, 2)[:1], (4, 3), (7, 4)):
            with self.assertRaises(NoSpot):
                place_by(sheet, (1, 1, 1, 1), sizes)
        self.assertIsNotNone(two_places(sheet, (1, 1)))
        self.assertIsNone(two_places(sheet, (1, 1, 1)))

    def test_frames_of_forty_bits(self):
        items, wide = ("until", "1", ("bits", "0")), ("times", 4, ("width", 8))
        forty = ("table", ((40, ""),))
        ahead = one(("sized", forty, ("row", (items, wide))))
        self.assertIsNone(two_places(ahead, (1, 1)))
        self.assertEqual(place_by(ahead, (1, 1), (40,)), 8)
        behind = one(("sized", forty, ("row", (("bits", ""), ("times", 5, ("width", 8))))))
        self.assertEqual(place_by(behind, (1, 0), (40,)), 0)
        last = one(("sized", forty, ("row", (("times", 5, ("width", 8)), ("bits", "")))))
        self.assertEqual(place_by(last, (1, 1), (40,)), 40)
        known = one(("sized", forty, ("row", (("sized", ("table", ((36, "0110"),)), ("row", (wide, ("width", 4)))), ("bits", "")))))
        self.assertEqual(place_by(known, (1, 1), (40, 36)), 40)

    def test_sizes_of_several_rows(self):
        """Known sizes stand in the sequence of the path; two things have them all alike."""
        items = ("until", "1", ("bits", "0"))
        three, one_bit = ("sized", ("table", ((3, "0"), (4, "1"))), items), ("sized", ("table", ((1, "00"), (2, "01"))), items)
        sheet = one(("row", (three, ("row", (one_bit, items, W1)))))
        parts = [plainspots.part_at(sheet, thing, (1, 2)) for thing in two_places(sheet, (1, 2))]
        self.assertEqual(parts[0][3], parts[1][3])
        self.assertNotEqual(parts[0][0], parts[1][0])
        inner = ("sized", ("table", ((4, "0"), (6, "1"))), ("row", (items, items, W2)))
        deep = one(("row", (one_bit, ("sized", ("width", 4), ("row", (three, items, inner))))))
        self.assertIsNotNone(two_places(deep, (1, 1, 2)))
        self.assertIsNone(two_places(deep, (1, 1, 2, 1)))
        things = two_places(deep, (1, 1, 2, 1, 1))
        parts = [plainspots.part_at(deep, thing, (1, 1, 2, 1, 1)) for thing in things]
        self.assertTrue(all(is_thing(deep, thing) for thing in things))
        self.assertEqual(parts[0][3], parts[1][3])
        self.assertNotEqual(parts[0][0], parts[1][0])
        framed = one(("row", (one_bit, ("sized", ("width", 4), ("row", (three, items, ("sized", ("table", ((4, "0"), (6, "1"))), ("row", (items, W2)))))))))
        for sizes, start in (((1, 10, 3, 4), 3 + 4 + 4 + 1 + 1 + 2), ((2, 12, 4, 4), 4 + 4 + 5 + 2 + 1 + 2), ((2, 13, 4, 6), 4 + 4 + 5 + 1 + 1 + 4)):
            self.assertEqual(place_by(framed, (1, 1, 2, 1, 1), sizes), start)
        for sizes in ((1, 9, 3, 4), (3, 10, 3, 4), (1, 10, 2, 4), (1, 10, 3, 5), (1, 10, 4, 6), (1, 10, 3), (1, 10, 3, 4, 0), (10, 1, 3, 4)):
            with self.assertRaises(NoSpot):
                place_by(framed, (1, 1, 2, 1, 1), sizes)

    def test_examples(self):
        sheet = ("t", (("t", ("sized", ("width", 3), ("row", (("until", "1", ("bits", "0")), ("width", 2))))),))
        self.assertEqual([two_places(sheet, (1, 1)), place_by(sheet, (1, 1), (5,)), spot_stretch(sheet, (((), ()), 2), (1, 1)), spot_sizes(sheet, (((), ()), 2), (1, 1))], [None, 6, (6, 8), (5,)])
        self.assertEqual(word_of(sheet, (((), ()), 2))[6:8], "10")


if __name__ == "__main__":
    unittest.main()
