"""[52] to [55]: rewritings, step maps, weight and reach, against a second reading by lists of words."""

import random
import unittest

from tests import oracle, plainrules
from tests.examples import ANY_VALUES, SubInt, SubStr, SubTuple
from termsonwires.errors import Faulty, InvalidStep, InvalidTerm
from termsonwires.faults import faults
from termsonwires.growth import growth, most_length
from termsonwires.maps import is_map, mapped, turned_map
from termsonwires.rewriting import is_road, is_rewriting_row, road
from termsonwires.rules import reach, rewritings, step_map, weight

NO = ("table", ())
EMPTY = ("bits", "")
W1 = ("width", 1)
FAULTY = ("table", ((1, "0"), (2, "0")))


def sheet_of(term):
    return ("t", (("t", term),))


def is_short(term):
    """Whether the lists of short words show all that rewritings ask for."""
    for path in plainrules.outer_paths(term):
        part = plainrules.at(term, path)
        if growth(sheet_of(part)) is None and (most_length(sheet_of(part)) or 0) > plainrules.MOST:
            return False
        if growth(sheet_of(part)) is not None and len(plainrules.words(part)) < 2:
            return False
    return True


def some_terms(seed, many, depth=4):
    chance = random.Random(seed)
    found = []
    while len(found) < many:
        term = plainrules.random_term(chance, chance.randint(2, depth))
        if not faults(sheet_of(term)) and plainrules.reach(term) <= 12 and is_short(term) and len(plainrules.words(term)) <= 200:
            found.append(term)
    return found


def told(term):
    return {(path, rule): new for path, rule, new in rewritings(term)}


class RulesTest(unittest.TestCase):
    def test_against_lists(self):
        seen = {}
        for term in some_terms(54, 400):
            self.assertEqual(rewritings(term), plainrules.rewritings(term), term)
            self.assertEqual(weight(term), plainrules.weight(term), term)
            self.assertEqual(reach(term), plainrules.reach(term), term)
            for _, rule, new in rewritings(term):
                seen[rule] = seen.get(rule, 0) + 1
                self.assertLess(weight(new), weight(term))
                self.assertLessEqual(reach(new), reach(term))
                self.assertEqual(faults(sheet_of(new)), [])
        self.assertGreater(len(seen), 15)

    def test_step_maps(self):
        for term in some_terms(55, 200):
            words = plainrules.words(term)
            for path, rule, new in rewritings(term):
                m = step_map(term, path, rule)
                self.assertTrue(is_map(m))
                new_words = plainrules.words(new)
                change = plainrules.part_rules(plainrules.at(term, path))[rule][1]
                for thing, word in words.items():
                    given = mapped(m, thing)
                    self.assertEqual(given, plainrules.moved(term, path, change, thing), (term, path, rule))
                    self.assertEqual(new_words[given], word)
                    self.assertEqual(mapped(turned_map(m), given), thing)

    def check(self, term, rule, new, thing=None, becomes=None, path=()):
        """That the rule can be used at the path with this result."""
        self.assertEqual(told(term).get((path, rule)), new, (term, rule))
        if thing is not None:
            self.assertEqual(mapped(step_map(term, path, rule), thing), becomes)

    def check_not(self, term, *rules):
        for rule in rules:
            self.assertNotIn(((), rule), told(term), (term, rule))
            with self.assertRaises(InvalidStep):
                step_map(term, (), rule)

    def test_few_things(self):
        self.check(("row", (W1, NO)), "void", NO)
        self.assertEqual(rewritings(NO), [])
        self.assertEqual([row[:2] for row in rewritings(("either", (("a", "0", ("row", (NO,))),)))], [((), "void"), ((0,), "void")])
        self.check(("table", (("a", "01"),)), "alone", ("bits", "01"), "a", ())
        self.check(("width", 0), "alone", EMPTY, 0, ())
        self.check(("until", "10", NO), "alone", ("bits", "10"), (), ())
        self.check(("counted", W1, NO), "alone", ("bits", "0"), (), ())
        self.check(("sized", ("table", ((3, "1"),)), ("until", "1", ("bits", "0"))), "alone", ("bits", "1001"), ((), ()), ())
        self.check(("checked", ((0, 1, "0"), (1, 0, "1")), ("bits", "10")), "alone", ("bits", "101"), (), ())
        self.assertEqual(rewritings(("bits", "01")), [])
        self.check_not(("either", (("a", "0", ("bits", "")), ("b", "1", EMPTY))), "void", "alone")
        self.check_not(("either", (("a", "1", ("row", (("times", 1, EMPTY),))),)), "way", "void", "single")
        self.check_not(("row", (W1, W1)), "void", "alone")

    def test_long_words(self):
        """Things are counted, however long their words are; sizes are told up to 40."""
        one, two = "01" * 25, "10" * 30
        self.check(("row", (("table", (("a", one),)), EMPTY)), "alone", ("bits", one), ("a", ()), ())
        for rows in ((("a", one), ("b", two)), (("a", one), ("b", one[::-1])), (("a", one), ("b", "1" * 41)), (("a", "0" * 41), ("b", "1" * 41)), (("a", "0" * 40), ("b", "1" * 41))):
            term = ("row", (("table", rows),))
            self.check(term, "single", ("table", rows))
            self.check_not(term, "alone", "void")
            self.check_not(("row", (("bits", "1"), ("table", rows))), "alone", "void", "single")
            self.check(("either", (("x", "0", ("table", rows[:1])),)), "alone", ("bits", "0" + rows[0][1]))
            self.check_not(("either", (("x", "0", ("table", rows[:1])), ("y", "1", ("table", rows[1:])))), "alone")
        forty = ("table", (("a", "0" * 40), ("b", "1" * 41)))
        self.check(("sized", ("table", ((40, "0"), (39, "1"))), forty), "alone", ("bits", "0" * 41))
        mixed = ("table", (("a", "0" * 40), ("b", "10" * 20), ("c", "11" * 25)))
        self.check_not(("sized", ("table", ((40, "0"),)), mixed), "sure", "alone", "listed")
        self.check(("sized", ("table", ((40, "0"), (39, "1"))), mixed), "listed", ("sized", ("table", ((40, "0"),)), mixed))
        self.check_not(("until", "1", ("bits", "0")), "alone")
        self.check_not(("until", "1", ("bits", "0" * 50)), "alone")

    def test_rows(self):
        inner = ("row", (W1, ("row", (W1,))))
        self.check(("row", (W1, inner, EMPTY)), "open", ("row", (W1, W1, ("row", (W1,)), EMPTY)), (0, (1, (1,)), ()), (0, 1, (1,), ()))
        self.check(("row", (("row", ()), W1)), "open", ("row", (W1,)), ((), 1), (1,))
        self.check_not(("row", (W1, W1)), "open", "join", "empty", "single")
        runs = ("row", (("bits", "0"), ("bits", "1"), W1, ("bits", "1"), W1, EMPTY, ("bits", "0"), EMPTY))
        self.check(runs, "join", ("row", (("bits", "01"), W1, ("bits", "1"), W1, ("bits", "0"))), ((), (), 1, (), 0, (), (), ()), ((), 1, (), 0, ()))
        self.check(runs, "empty", ("row", (("bits", "0"), ("bits", "1"), W1, ("bits", "1"), W1, ("bits", "0"))), ((), (), 1, (), 0, (), (), ()), ((), (), 1, (), 0, ()))
        self.check_not(("row", (("bits", "0"), W1, ("bits", "0"))), "join", "empty")
        self.check(("row", (W1,)), "single", W1, (1,), 1)
        wide = ("row", (W1,) + (("bits", "1"),) * 45 + (EMPTY,))
        self.check(wide, "join", ("row", (W1, ("bits", "1" * 45))), (1,) + ((),) * 46, (1, ()))
        many = ("row", (("row", (W1,) * 30), ("row", (W1,) * 30)))
        self.check(many, "open", ("row", (W1,) * 60), ((0,) * 30, (1,) * 30), (0,) * 30 + (1,) * 30)

    def test_eithers(self):
        self.check(("either", (("a", "01", W1),)), "way", ("row", (("bits", "01"), W1)), ("a", 1), ((), 1))
        dropped = ("either", (("a", "0", W1), ("b", "1", ("row", (NO, W1)))))
        self.check(dropped, "drop", ("either", (("a", "0", W1),)), ("a", 1), ("a", 1))
        self.check_not(dropped, "way", "ahead")
        self.check_not(("either", (("a", "0", W1), ("b", "1", W1))), "drop", "way", "ahead", "tag", "order")
        led = ("either", (("a", "101", W1), ("b", "0", NO), ("c", "100", W1)))
        self.check(led, "ahead", ("row", (("bits", "10"), ("either", (("a", "1", W1), ("c", "0", W1))))), ("c", 1), ((), ("c", 1)))
        self.check(led, "order", ("either", (("b", "0", NO), ("c", "100", W1), ("a", "101", W1))), ("a", 0), ("a", 0))
        tagged = ("either", (("a", "1", ("row", (("bits", "01"), W1, EMPTY))), ("b", "00", ("bits", "1")), ("c", "01", EMPTY)))
        new = ("either", (("a", "101", ("row", (W1, EMPTY))), ("b", "001", EMPTY), ("c", "01", EMPTY)))
        self.check(tagged, "tag", new, ("a", ((), 1, ())), ("a", (1, ())))
        self.check(tagged, "tag", new, ("b", ()), ("b", ()))
        self.check_not(("either", (("a", "0", ("row", (EMPTY, W1))), ("b", "1", ("row", (W1, ("bits", "1")))))), "tag")
        self.check_not(("either", (("a", "0", ("row", ())), ("b", "1", EMPTY))), "tag")
        beside = ("either", (("a", "0", ("row", (W1, W1))), ("b", "1", ("row", (("bits", "0"), W1)))))
        self.check(beside, "tag", ("either", (("a", "0", ("row", (W1, W1))), ("b", "10", ("row", (W1,))))), ("a", (0, 1)), ("a", (0, 1)))

    def test_tables(self):
        self.check(("table", (("b", "01"), ("a", "00"))), "order", ("table", (("a", "00"), ("b", "01"))), "a", "a")
        self.check(("table", (("b", "01"), ("a", "00"))), "ahead", ("row", (("bits", "0"), ("table", (("b", "1"), ("a", "0"))))), "a", ((), "a"))
        self.check(("table", ((2, "10"), (0, "00"), (1, "01"), (3, "11"))), "whole", ("width", 2), 2, 2)
        self.check(("table", ((0, "0"), (1, "1"))), "whole", ("width", 1))
        for rows in (((0, "0"), (1, "11")), ((0, "1"), (1, "0")), (("0", "0"), ("1", "1")), ((0, "00"), (1, "01"), (2, "10")), ((0, "00"), (1, "01")), ((0, "0"), (2, "10")), ((1, "1"), (-1, "01")), tuple((k, format(k, "09b")) for k in range(512))):
            self.check_not(("table", rows), "whole")
        eight = tuple((k, format(k, "08b")) for k in range(256))
        self.check(("table", eight), "whole", ("width", 8), 200, 200)
        self.check_not(("table", (("a", "0"), ("b", "1"))), "ahead", "order", "drop", "way")

    def test_numbers(self):
        self.check(("times", 1, W1), "once", W1, (1,), 1)
        self.check_not(("times", 2, W1), "once")
        self.check(("counted", ("table", ((2, "01"),)), W1), "number", ("row", (("bits", "01"), ("times", 2, W1))), (1, 0), ((), (1, 0)))
        bent = ("counted", ("table", ((2, "1"), (0, "0"))), W1)
        self.check(bent, "listed", ("counted", ("table", ((0, "0"), (2, "1"))), W1), (0, 1), (0, 1))
        self.check_not(bent, "number")
        self.assertEqual(rewritings(("counted", ("table", ((0, "0"), (2, "1"))), W1)), [])
        self.check(("counted", W1, W1), "listed", ("counted", ("table", ((0, "0"), (1, "1"))), W1))
        sized = ("sized", ("table", ((2, "0"), (1, "10"), (3, "11"))), ("either", (("a", "0", EMPTY), ("b", "10", EMPTY))))
        self.check(sized, "listed", ("sized", ("table", ((1, "10"), (2, "0"))), sized[2]), ("a", ()), ("a", ()))
        self.check_not(sized, "sure", "number")
        self.check(("sized", ("table", ((2, "0"), (1, "10"))), ("width", 2)), "sure", ("row", (("bits", "0"), ("width", 2))), 3, ((), 3))
        self.check_not(("sized", ("table", ((2, "0"),)), ("either", (("a", "0", W1), ("b", "1", ("width", 2))))), "sure", "listed")
        forty = ("sized", ("table", ((40, ""),)), ("times", 5, ("width", 8)))
        self.check(forty, "sure", ("row", (EMPTY, ("times", 5, ("width", 8)))))

    def test_numbers_are_never_rewritten(self):
        term = ("counted", ("checked", ((0, 0, "1"),), ("sized", ("table", ((1, "0"),)), W1)), ("times", 1, W1))
        self.assertEqual([row[:2] for row in rewritings(term)], [((), "listed"), ((1,), "once")])
        for path in ((0,), (0, 0), (0, 0, 1)):
            with self.assertRaises(InvalidStep):
                step_map(term, path, "fixed")

    def test_machines(self):
        twins = ("checked", ((1, 2, "0"), (2, 1, "1"), (1, 2, "1"), (0, 0, "0")), W1)
        self.check(twins, "machine", ("checked", ((1, 1, "0"), (1, 1, "1")), W1), 1, 1)
        self.check_not(twins, "fixed")
        self.check_not(("checked", ((0, 1, "0"), (1, 0, "1")), W1), "machine", "fixed")
        turned = ("checked", ((2, 1, "0"), (1, 2, "1"), (0, 0, "1")), W1)
        self.check(turned, "machine", ("checked", ((1, 2, "0"), (0, 0, "1"), (2, 1, "1")), W1))
        still = ("checked", ((1, 0, "01"), (0, 1, "01")), W1)
        self.check(still, "fixed", ("row", (W1, ("bits", "01"))), 1, (1, ()))
        self.check(still, "machine", ("checked", ((0, 0, "01"),), W1), 1, 1)
        self.check_not(("checked", ((0, 0, "01"),), W1), "machine")

    def test_inner_parts(self):
        once = ("times", 1, W1)
        for term, path, thing, becomes in (
                (("row", (W1, once)), (1,), (0, (1,)), (0, 1)),
                (("either", (("a", "0", W1), ("b", "1", once))), (1,), ("b", (1,)), ("b", 1)),
                (("either", (("a", "0", W1), ("b", "1", once))), (1,), ("a", 1), ("a", 1)),
                (("times", 2, once), (0,), ((1,), (0,)), (1, 0)),
                (("until", "11", ("row", (("bits", "0"), once))), (0, 1), (((), (1,)),), (((), 1),)),
                (("counted", W1, once), (1,), ((1,),), (1,)),
                (("sized", W1, once), (1,), (1,), 1),
                (("checked", ((0, 1, "0"), (1, 0, "1")), once), (0,), (1,), 1)):
            self.assertIn((path, "once"), told(term))
            self.assertEqual(mapped(step_map(term, path, "once"), thing), becomes)

    def test_no_such_step(self):
        term = ("row", (("times", 1, W1), W1))
        self.assertEqual(told(term).keys(), {((0,), "once")})
        for path in ANY_VALUES + [(1,), (2,), (0, 0), (0, 0, 0), (-2,), (False,), (SubInt(0),), SubTuple((0,)), [0], ("0",), (0.0,)]:
            with self.assertRaises(InvalidStep):
                step_map(term, path, "once")
        for rule in ANY_VALUES + ["Once", "single", "alone", "void", SubStr("once"), ("once",), ["once"]]:
            with self.assertRaises(InvalidStep):
                step_map(term, (0,), rule)

    def test_weight_by_the_table(self):
        led = ("either", (("a", "01", EMPTY), ("b", "00", W1)))
        for term, many in (
                (EMPTY, 1), (NO, 1), (("bits", "0"), 2), (W1, 3), (("row", ()), 3), (("times", 2, W1), 6), (("until", "1", ("bits", "0")), 5),
                (("table", (("a", "0"),)), 4), (("table", (("a", "0"), ("b", "1"))), 4), (("table", (("a", "1"), ("b", "0"))), 5), (("table", (("a", "00"), ("b", "01"))), 10),
                (("table", (("a", "01"), ("b", "00"))), 11), (("either", ()), 2), (led, 2 + 12 + 6 + 1 + 1 + 3), (("either", (("a", "0", NO), ("b", "1", NO))), 16),
                (("either", (("a", "01", NO), ("b", "00", NO))), 17), (("counted", ("table", ((0, "0"), (1, "1"))), W1), 13), (("counted", W1, W1), 14), (("counted", W1, NO), 12), (("counted", ("table", ((0, "0"),)), NO), 11),
                (("sized", ("table", ((1, "0"),)), W1), 9), (("sized", ("table", ((2, "0"),)), W1), 10), (("checked", ((0, 0, "1"),), W1), 9), (("checked", ((1, 1, "1"), (0, 0, "1")), W1), 10)):
            self.assertEqual(weight(term), many, term)

    def test_reach(self):
        led = ("table", (("a", "00"), ("b", "01")))
        for term, many in (
                (EMPTY, 1), (W1, 1), (NO, 1), (("table", (("a", "00"),)), 1), (led, 2), (("row", ()), 1), (("row", (W1, led)), 3), (("times", 0, led), 3), (("until", "1", ("bits", "0")), 2),
                (("checked", ((0, 0, "1"),), W1), 2), (("either", ()), 1), (("either", (("a", "0", W1), ("b", "1", W1))), 2), (("either", (("a", "00", W1), ("b", "01", W1))), 3),
                (("either", (("a", "00", W1), ("b", "01", NO))), 2), (("counted", W1, EMPTY), 3), (("sized", W1, led), 3), (("counted", ("checked", ((0, 0, "1"),), ("checked", ((0, 0, "1"),), W1)), W1), 4),
                (("counted", ("checked", ((0, 0, "1"),), ("checked", ((0, 0, "1"),), ("checked", ((0, 0, "1"),), W1))), W1), 5), (("sized", ("checked", ((0, 0, "1"),), W1), EMPTY), 3)):
            self.assertEqual(reach(term), many, term)

    def deep(self, depth, inner):
        for _ in range(depth):
            inner = ("row", (inner, W1))
        return inner

    def test_reach_of_twelve_and_thirteen(self):
        led = ("either", (("a", "00", W1), ("b", "01", W1)))
        counted = ("counted", ("width", 1), W1)
        sized = ("sized", ("checked", ((0, 0, "1"),), W1), W1)
        for inner, many in ((W1, 1), (led, 3), (("table", (("a", "00"), ("b", "01"))), 2), (counted, 3), (("until", "11", ("bits", "0")), 2), (sized, 3), (("times", 0, NO), 2), (("checked", ((0, 0, "1"),), NO), 2), (("either", ()), 1)):
            good = self.deep(12 - many, inner)
            self.assertEqual(reach(good), 12)
            self.assertGreater(weight(good), 12)
            rewritings(good)
            bad = self.deep(13 - many, inner)
            for call in (reach, weight, rewritings, lambda term: step_map(term, None, None)):
                with self.assertRaises(InvalidTerm):
                    call(bad)
            for call in (road, lambda a, b: is_road(a, b, None)):
                with self.assertRaises(InvalidTerm):
                    call(W1, bad)

    def test_errors_in_their_order(self):
        led = ("either", (("a", "00", W1), ("b", "01", W1)))
        far = self.deep(10, led)
        for bad in ANY_VALUES + [("ref", "t"), ("row", (("ref", "t"),)), ("width", 9)]:
            for call in (rewritings, weight, reach, lambda term: step_map(term, (), "once"), lambda term: is_rewriting_row(term, [])):
                with self.assertRaises(InvalidTerm):
                    call(bad)
            for a, b in ((bad, W1), (FAULTY, bad), (far, bad), (bad, FAULTY)):
                with self.assertRaises(InvalidTerm):
                    road(a, b)
        for call in (rewritings, weight, reach, lambda term: step_map(term, (), "once"), lambda term: road(term, W1), lambda term: road(far, term), lambda term: road(term, far)):
            with self.assertRaises(Faulty) as caught:
                call(FAULTY)
            self.assertEqual(caught.exception.faults, [("t", (), "tags")])
        with self.assertRaises(Faulty) as caught:
            road(("row", (FAULTY,)), FAULTY)
        self.assertEqual(caught.exception.faults, [("t", (0,), "tags")])

    def test_examples(self):
        self.assertEqual(rewritings(("either", (("a", "01", ("width", 2)),))), [((), "way", ("row", (("bits", "01"), ("width", 2))))])
        term = ("either", (("p", "00", ("row", (("bits", "1"), ("width", 1)))), ("q", "01", ("bits", "0")), ("r", "1", ("table", ()))))
        self.assertEqual([[row[:2] for row in rewritings(term)], weight(term), reach(term)], [[((), "ahead"), ((), "drop"), ((), "tag")], 37, 4])
        self.assertEqual([row[:2] for row in rewritings(("row", (("row", ()), ("bits", ""))))], [((), "alone"), ((0,), "alone")])

    def test_nothing_is_changed_and_lists_are_new(self):
        term = ("either", (("a", "01", ("width", 2)),))
        rewritings(term).append(1)
        self.assertEqual(len(rewritings(term)), 1)


if __name__ == "__main__":
    unittest.main()
