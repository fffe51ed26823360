"""[56], [57]: rewriting rows, normal terms and roads, judged by the rewritings one by one."""

import random
import unittest

from tests import oracle, plainrules
from tests.examples import ANY_VALUES, TREE, SubList, SubTuple
from tests.test_rules import FAULTY, some_terms
from termsonwires.changes import changed
from termsonwires.errors import Endless, Faulty, InvalidSheet, InvalidSteps, InvalidTerm, InvalidThing, TooMany
from termsonwires.faults import faults
from termsonwires.maps import mapped
from termsonwires.rewriting import (
    carried, is_normal_term, is_rewriting_row, is_road, normal_row, normal_term, put_in, rewritten, road)
from termsonwires.rules import reach, rewritings, step_map, weight

W1 = ("width", 1)
NO = ("table", ())
T = ("either", (("p", "00", ("row", (("bits", "1"), ("width", 1)))), ("q", "01", ("bits", "0")), ("r", "1", ("table", ()))))


def random_row(chance, term):
    """A row to the normal term, each step taken by chance; and the terms that are met."""
    row, met = [], [term]
    while rewritings(met[-1]):
        path, rule, new = chance.choice(rewritings(met[-1]))
        row.append((path, rule))
        met.append(new)
    return row, met


class PutInTest(unittest.TestCase):
    def test_refs_are_replaced(self):
        chance, done = random.Random(56), 0
        while done < 80:
            sheet = oracle.random_sheet(chance, entries=4, depth=3, flat=True)
            if faults(sheet):
                continue
            done += 1
            entries = dict(sheet[1])

            def filled(term):
                if term[0] == "ref":
                    return filled(entries[term[1]])
                for k, part in enumerate(oracle.parts_of(term)):
                    term = plainrules.put_at(term, (k,), filled(part))
                return term

            expected = filled(entries[sheet[0]])
            many = len(list(oracle.all_places(("t", (("t", expected),)))))
            if many > 80:
                with self.assertRaises(TooMany) as caught:
                    put_in(sheet)
                self.assertEqual(caught.exception.count, 80)
            else:
                self.assertEqual(put_in(sheet), expected)
                self.assertEqual(oracle.words(("t", (("t", expected),)), 8), oracle.words(sheet, 8))

    def test_bounds(self):
        def sheet(many, inner=W1):
            return ("a", (("a", ("row", (("ref", "b"),) * many)), ("b", inner)))
        self.assertEqual(put_in(sheet(79)), ("row", (W1,) * 79))
        with self.assertRaises(TooMany) as caught:
            put_in(sheet(80))
        self.assertEqual(caught.exception.count, 80)
        pairs = ("row", (W1, W1))
        self.assertEqual(put_in(sheet(26, pairs))[1][0], pairs)
        with self.assertRaises(TooMany):
            put_in(sheet(27, pairs))
        grown = ("a", tuple((name, ("row", (("ref", after),) * 9)) for name, after in zip("abcde", "bcdef")) + (("f", W1),))
        with self.assertRaises(TooMany):
            put_in(grown)
        self.assertEqual(put_in(("f",) + grown[1:]), W1)

        def deep(many):
            inner = W1
            for _ in range(many):
                inner = ("row", (inner,))
            return inner
        led = ("either", (("x", "00", ("ref", "b")), ("y", "01", NO)))
        self.assertEqual(reach(put_in(("a", (("a", ("row", (("ref", "b"),))), ("b", deep(10)))))), 12)
        with self.assertRaises(TooMany) as caught:
            put_in(("a", (("a", ("row", (("ref", "b"),))), ("b", deep(11)))))
        self.assertEqual(caught.exception.count, 12)
        with self.assertRaises(TooMany) as caught:
            put_in(("a", (("a", ("row", (("ref", "b"),) * 40)), ("b", ("row", (("ref", "c"),) * 2)), ("c", deep(11)))))
        self.assertEqual(caught.exception.count, 80)
        self.assertEqual(put_in(("a", (("a", led), ("b", deep(10)))))[0], "either")
        with self.assertRaises(TooMany):
            put_in(("a", (("a", ("either", (("x", "00", ("ref", "b")), ("y", "01", W1)))), ("b", deep(10)))))

    def test_numbers_count_too(self):
        sheet = ("a", (("a", ("row", (("counted", ("ref", "n"), W1),) * 20)), ("n", ("checked", ((0, 0, "1"),), W1))))
        with self.assertRaises(TooMany):
            put_in(sheet)
        self.assertEqual(len(put_in(("a", (("a", ("row", sheet[1][0][1][1][:19])), sheet[1][1])))[1]), 19)

    def test_errors(self):
        for bad in ANY_VALUES:
            with self.assertRaises(InvalidSheet):
                put_in(bad)
        with self.assertRaises(Endless) as caught:
            put_in(TREE)
        self.assertEqual(caught.exception.name, "tree")
        with self.assertRaises(Endless):
            put_in(("a", (("a", W1),) + TREE[1]))
        with self.assertRaises(Faulty):
            put_in(("a", (("a", FAULTY),) + TREE[1]))

    def test_parts_may_be_normal(self):
        """J16."""
        for term in some_terms(57, 40):
            sheet = ("a", (("a", ("row", (("ref", "b"), ("until", "101", W1), ("ref", "b")))), ("b", ("row", (W1, term)))))
            if faults(sheet):
                continue
            new = changed(sheet, ("b", (1,)), normal_term(term))
            self.assertEqual(faults(new), [])
            self.assertEqual(sorted(oracle.words(new, 9).values()), sorted(oracle.words(sheet, 9).values()))


class RowsTest(unittest.TestCase):
    def test_rows_lead_to_one_end(self):
        """J11 to J14."""
        chance = random.Random(58)
        for term in some_terms(58, 120):
            row, met = random_row(chance, term)
            end = normal_term(term)
            self.assertEqual(met[-1], end, term)
            self.assertTrue(is_rewriting_row(term, row))
            self.assertEqual(rewritten(term, row), end)
            self.assertLess(len(row), weight(term))
            self.assertTrue(is_rewriting_row(term, normal_row(term)))
            self.assertEqual(rewritten(term, normal_row(term)), end)
            self.assertEqual(rewritings(end), [])
            self.assertIs(is_normal_term(end), True)
            self.assertIs(is_normal_term(term), row == [])
            self.assertEqual(rewritten(term, row[:2]), met[min(2, len(row))])
            things = plainrules.words(term)
            for thing in sorted(things, key=repr)[:4]:
                moved = thing
                for (path, rule), before in zip(row, met):
                    moved = mapped(step_map(before, path, rule), moved)
                self.assertEqual(carried(term, row, thing), moved)
                self.assertEqual(carried(term, normal_row(term), thing), moved)
                self.assertEqual(plainrules.words(end)[moved], things[thing])
            self.judge_end(end, things)

    def judge_end(self, end, things):
        self.assertEqual(end == NO, things == {})
        self.assertEqual(end[0] == "bits", len(things) == 1)
        if len(things) > 1:
            for path in plainrules.outer_paths(end):
                many = len(plainrules.words(plainrules.at(end, path)))
                self.assertGreater(many, 0)
                self.assertEqual(many == 1, plainrules.at(end, path)[0] == "bits")

    def test_bent_rows(self):
        chance = random.Random(59)
        bent = 0
        for term in some_terms(59, 60):
            row, met = random_row(chance, term)
            for k, (path, rule) in enumerate(row):
                for other in ((path + (0,), rule), (path[:-1], rule), (path, chance.choice(["single", "once", "alone", "void", "drop"]))):
                    value = row[:k] + [other]
                    expected = other in [step[:2] for step in rewritings(met[k])]
                    self.assertIs(is_rewriting_row(term, value), expected)
                    bent += not expected
                    if not expected:
                        with self.assertRaises(InvalidSteps):
                            rewritten(term, value + row[k + 1:])
            self.assertEqual(is_rewriting_row(term, row + row[-1:]), row == [])
        self.assertGreater(bent, 80)

    def test_other_values(self):
        row = normal_row(T)
        self.assertGreater(len(row), 1)
        self.assertIs(is_rewriting_row(T, []), True)
        self.assertIs(is_rewriting_row(NO, []), True)
        bad = ANY_VALUES + [tuple(row), SubList(row), row + [None], [list(row[0])], [row[0] + (1,)], [row[0][:1]], [SubTuple(row[0])], [(list(row[0][0]), row[0][1])], [((), ())], [((), [])], [((), None)], [((), "")], [((True,), "tag")]]
        for value in bad:
            self.assertIs(is_rewriting_row(T, value), value == [] and type(value) is list)
            if value == [] and type(value) is list:
                continue
            with self.assertRaises(InvalidSteps):
                rewritten(T, value)
            with self.assertRaises(InvalidSteps):
                carried(T, value, None)

    def test_things_are_asked_behind_steps(self):
        row = normal_row(T)
        for thing in ANY_VALUES + [("r", ()), ("p", ((), 2)), ("p", ((), True)), ["p", ((), 1)]]:
            with self.assertRaises(InvalidThing):
                carried(T, row, thing)
            with self.assertRaises(InvalidTerm):
                carried(None, row, thing)
        self.assertEqual(carried(T, [], ("p", ((), 1))), ("p", ((), 1)))

    def test_terms_are_asked_first(self):
        for call in (lambda t: is_rewriting_row(t, None), lambda t: rewritten(t, None), lambda t: carried(t, None, None), is_normal_term, normal_row, normal_term):
            for bad in ANY_VALUES:
                with self.assertRaises(InvalidTerm):
                    call(bad)
            with self.assertRaises(Faulty):
                call(FAULTY)

    def test_examples(self):
        self.assertEqual(normal_term(T), ("row", (("bits", "0"), ("either", (("p", "01", ("width", 1)), ("q", "10", ("bits", "")))))))
        self.assertEqual(weight(normal_term(T)), 23)
        self.assertEqual(carried(T, normal_row(T), ("p", ((), 1))), ((), ("p", 1)))


class RoadTest(unittest.TestCase):
    def test_roads(self):
        """J15."""
        chance = random.Random(60)
        terms = some_terms(61, 60)
        found = {True: 0, False: 0}
        for k, term in enumerate(terms):
            _, met = random_row(chance, term)
            self.assertIs(is_road(term, met[-1], met), True)
            self.assertIs(is_road(met[-1], term, met[::-1]), True)
            self.assertIs(is_road(term, term, [term]), True)
            self.assertIs(is_road(term, term, met + met[::-1][1:]), True)
            other = chance.choice([met[-1], chance.choice(met), terms[k - 1], chance.choice(terms)])
            way = road(term, other)
            found[way is None] += 1
            self.assertEqual(way is None, normal_term(term) != normal_term(other))
            if way is not None:
                self.assertIs(is_road(term, other, way), True)
                self.assertEqual(way[0], term)
                self.assertEqual(way[-1], other)
            if len(met) > 3:
                self.assertIs(is_road(term, met[-1], met[:1] + met[3:]), met[3] in [row[2] for row in rewritings(term)] or term in [row[2] for row in rewritings(met[3])])
                self.assertIs(is_road(term, met[-1], met[1:]), False)
                self.assertIs(is_road(term, met[-1], met[:-1]), False)
        self.assertGreater(min(found.values()), 10)

    def test_what_is_no_road(self):
        once = ("times", 1, W1)
        self.assertIs(is_road(once, W1, [once, W1]), True)
        self.assertIs(is_road(W1, once, [W1, once]), True)
        self.assertIs(is_road(W1, W1, [W1, once, W1]), True)
        self.assertIs(is_road(once, W1, [once, once, W1]), False)
        self.assertIs(is_road(once, W1, [once, W1, W1]), False)
        twice = ("row", (once, once))
        self.assertIs(is_road(twice, ("row", (W1, W1)), [twice, ("row", (W1, W1))]), False)
        self.assertIs(is_road(twice, ("row", (W1, W1)), [twice, ("row", (W1, once)), ("row", (W1, W1))]), True)
        bad = ANY_VALUES + [(once, W1), SubList([once, W1]), [once, ("width", True), W1][1:], [once, None, W1], [once, ("ref", "t"), W1], [once, ("ref", "u"), W1], [once, ("width", 9), W1]]
        for value in bad:
            self.assertIs(is_road(once, W1, value), False)
        self.assertIs(is_road(("times", 2, once), ("times", 3, W1), [("times", 2, once), ("times", 3, W1)]), False)
        self.assertIs(is_road(("times", 2, once), ("times", 2, W1), [("times", 2, once), ("times", 2, W1)]), True)
        bent = ("counted", ("checked", ((1, 1, "1"), (0, 0, "1")), ("table", ((0, "0"), (1, "1")))), W1)
        plain = ("counted", ("checked", ((0, 0, "1"),), ("table", ((0, "0"), (1, "1")))), W1)
        self.assertIs(is_road(bent, plain, [bent, plain]), False)
        self.assertIsNotNone(road(bent, plain))
        whole = ("either", (("a", "0", W1),))
        self.assertIs(is_road(whole, whole, [whole, ("either", (("a", "0", W1), ("b", "1", NO))), whole]), True)
        self.assertIs(is_road(whole, whole, [whole, ("either", (("a", "0", W1), ("b", "0", NO))), whole]), False)
        for one, other in ((None, W1), (W1, None), (FAULTY, W1), (W1, FAULTY)):
            with self.assertRaises((InvalidTerm, Faulty)):
                is_road(one, other, None)
        faulty = ("table", ((1, "0"), (2, "0"), (3, "01")))
        self.assertIs(is_road(W1, W1, [W1, faulty, W1]), False)

    def test_terms_in_it_are_asked(self):
        def deep(many):
            inner = W1
            for _ in range(many):
                inner = ("times", 1, inner)
            return inner
        self.assertIs(is_road(deep(11), deep(11), [deep(11), deep(10), deep(11)]), True)
        self.assertIs(is_road(deep(10), deep(10), [deep(10), deep(11), deep(10)]), True)
        led = ("either", (("x", "00", deep(10)), ("y", "01", W1)))
        dropped = ("row", (led, ))
        self.assertIs(is_road(led[1][0][2], led[1][0][2], [led[1][0][2], dropped, led[1][0][2]]), False)
        unsound = ("either", (("a", "0", deep(1)), ("b", "0", NO)))
        self.assertIs(is_road(W1, W1, [W1, unsound, W1]), False)
        far = ("counted", ("table", ((1, ""),)), deep(10))
        self.assertIs(is_road(deep(9), deep(9), [deep(9), far, deep(9)]), False)

    def test_examples(self):
        self.assertIsNone(road(W1, ("width", 2)))
        self.assertEqual(road(W1, W1), [W1])
        way = road(T, normal_term(T))
        self.assertIs(is_road(T, normal_term(T), way), True)
        self.assertEqual(road(normal_term(T), T), way[::-1])


if __name__ == "__main__":
    unittest.main()
