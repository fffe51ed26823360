"""[50] with J3 to J6: the chart of a map, and maps compared, judged by what the maps give for many things."""

import random
import unittest

from tests import plainmaps
from tests.examples import ANY_VALUES, nested
from tests.plainmaps import UNFIT, text
from termsonwires.charts import chart_of, is_below, parting, same_map, shortened_map
from termsonwires.errors import InvalidMap, TooMany, Unfit
from termsonwires.maps import mapped, turned_map
from termsonwires.patterns import is_chart, turned_chart

SAME = ("same",)
ANY = ("any", 0)


def after(*maps):
    return maps[0] if len(maps) == 1 else ("after", maps[0], after(*maps[1:]))


def atom(value):
    return ("atom", value)


def row(*parts):
    return ("tuple", parts)


def table(many, start=0):
    return ("table", tuple((k, k + 1) for k in range(start, start + many)))


def tried(mapping, thing):
    try:
        return mapped(mapping, thing)
    except Unfit:
        return UNFIT


def shown(thing):
    return None if thing is UNFIT else text(thing)


def some_maps(seed, many, depth=3):
    """Random maps whose charts and parts are small enough."""
    chance = random.Random(seed)
    found = []
    while len(found) < many:
        mapping = plainmaps.random_map(chance, depth)
        try:
            chart_of(mapping)
        except TooMany:
            continue
        found.append(mapping)
    return chance, found


def things_for(chance, mapping):
    """Things that fit the map, that fit its chart, and any."""
    found = [plainmaps.fitting_thing(chance, mapping) for _ in range(4)] + [plainmaps.random_thing(chance, 3) for _ in range(3)]
    found += [plainmaps.pattern_thing(chance, pattern) for pattern, _ in chart_of(mapping)[:6] for _ in range(2)]
    return [thing for thing in found if thing is not UNFIT]


class ChartOfTest(unittest.TestCase):
    def test_examples(self):
        self.assertEqual(chart_of(("after", ("label", "a"), ("ways", (("a", "b", ("wrap",)),)))), ((ANY, row(atom("b"), row(ANY))),))
        self.assertEqual([same_map(("after", ("turn", (1, 0)), ("turn", (1, 0))), ("row", (SAME, SAME))), is_below(("unwrap",), SAME)], [True, False])

    def test_each_map(self):
        one, two = ("any", 0), ("any", 1)
        for mapping, chart in [
            (SAME, ((one, one),)), (("table", ((1, ("a",)), ("b", ()))), ((atom("b"), row()), (atom(1), row(atom("a"))))), (("table", ()), ()), (("row", ()), ((row(), row()),)),
            (("row", (SAME, ("wrap",))), ((row(one, two), row(one, row(two))),)), (("row", (SAME, ("table", ()))), ()),
            (("row", (("turn", (1, 0)), SAME)), ((row(row(one, two), ("any", 2)), row(row(two, one), ("any", 2))),)),
            (("each", SAME), ((("each", 0, ((one, one),)), ("each", 0)),)), (("each", ("table", ())), ((row(), row()),)),
            (("row", (("each", ("wrap",)), SAME)), ((row(("each", 0, ((one, row(one)),)), two), row(("each", 0), two)),)),
            (("ways", (("b", "x", SAME), ("a", "y", ("table", ((2, 3), (1, 4)))))), ((row(atom("a"), atom(1)), row(atom("y"), atom(4))), (row(atom("a"), atom(2)), row(atom("y"), atom(3))), (row(atom("b"), one), row(atom("x"), one)))),
            (("ways", ()), ()), (("turn", (1, 2, 0)), ((row(one, two, ("any", 2)), row(two, ("any", 2), one)),)), (("label", "a"), ((one, row(atom("a"), one)),)), (("unlabel", "a"), ((row(atom("a"), one), one),)),
            (("wrap",), ((one, row(one)),)), (("unwrap",), ((row(one), one),)), (("put", 1, 1, (5,)), ((row(one), row(one, row(atom(5)))),)), (("drop", 1, 0, 5), ((row(atom(5), one), row(one)),)),
            (("pack", (1, None, 0)), ((row(one, two), row(row(one), two, row())),)), (("unpack", (None, 1)), ((row(one, row(two)), row(one, two)),)), (("rules", ((one, row(one)),)), ((one, row(one)),)),
        ]:
            self.assertEqual(chart_of(mapping), chart, mapping)
            self.assertEqual(chart_of(turned_map(mapping)), turned_chart(chart))
            self.assertEqual(shortened_map(mapping), ("rules", chart))

    def test_after_by_cases(self):
        each_table = ("each", table(2))
        for first, second, chart in [
            (("label", "a"), ("unlabel", "b"), ()), (SAME, ("wrap",), ((ANY, row(ANY)),)), (("unwrap",), ("table", ((1, 2),)), ((row(atom(1)), atom(2)),)), (("table", ((1, (5, 6)),)), ("turn", (1, 0)), ((atom(1), row(atom(6), atom(5))),)),
            (("each", ("label", "a")), ("each", ("unlabel", "b")), ((row(), row()),)), (("each", ("label", "a")), ("each", ("unlabel", "a")), ((("each", 0, ((ANY, ANY),)), ("each", 0)),)),
            (each_table, ("unwrap",), ((row(atom(0)), atom(1)), (row(atom(1)), atom(2)))), (("wrap",), each_table, ((atom(0), row(atom(1))), (atom(1), row(atom(2))))),
            (each_table, ("turn", ()), ((row(), row()),)), (each_table, ("drop", 0, 0, 2), ((row(atom(1)), row()),)), (each_table, ("drop", 0, 0, 7), ()), (("put", 0, 0, 1), each_table, ((row(), row(atom(2))),)),
            (each_table, SAME, ((("each", 0, ((atom(0), atom(1)), (atom(1), atom(2)))), ("each", 0)),)), (each_table, ("wrap",), ((("each", 0, ((atom(0), atom(1)), (atom(1), atom(2)))), row(("each", 0))),)),
            (("each", each_table), ("each", ("unwrap",)), ((("each", 0, ((row(atom(0)), atom(1)), (row(atom(1)), atom(2)))), ("each", 0)),)),
            (("each", ("row", (SAME, SAME))), ("unwrap",), ((row(row(ANY, ("any", 1))), row(ANY, ("any", 1))),)), (("each", ("turn", (1, 0))), ("turn", (1, 0)), ((row(row(ANY, ("any", 1)), row(("any", 2), ("any", 3))), row(row(("any", 3), ("any", 2)), row(("any", 1), ANY))),)),
            (("each", ("each", SAME)), ("unwrap",), ((row(("each", 0, ((ANY, ANY),))), ("each", 0)),)),
            (("row", (("each", ("label", "a")), SAME)), ("row", (("each", ("unlabel", "b")), SAME)), ((row(row(), ANY), row(row(), ANY)),)),
            (("each", ("turn", (1, 0))), ("row", (("each", ("table", ((1, 2),))), SAME)), ((row(row(atom(1), atom(1)), row(ANY, ("any", 1))), row(row(atom(2), atom(2)), row(("any", 1), ANY))),)),
            (("each", ("row", (("each", table(1)),))), ("row", (("row", (("each", ("table", ((1, 5),))),)), ("unwrap",))), ((row(row(("each", 0, ((atom(0), atom(5)),))), row(("each", 1, ((atom(0), atom(1)),)))), row(row(("each", 0)), ("each", 1))),)),
        ]:
            mapping = ("after", first, second)
            self.assertEqual(chart_of(mapping), chart, mapping)
            self.assertEqual(chart_of(turned_map(mapping)), turned_chart(chart))

    def test_against_what_maps_give(self):
        chance, found = some_maps(160, 700)
        fitted = 0
        for mapping in found:
            chart = chart_of(mapping)
            self.assertIs(is_chart(chart), True, mapping)
            self.assertTrue(plainmaps.clean(chart), (mapping, chart))
            for thing in things_for(chance, mapping):
                given = plainmaps.given(mapping, thing)
                self.assertEqual(shown(plainmaps.charted(chart, thing)), shown(given), (mapping, thing))
                self.assertEqual(shown(tried(("rules", chart), thing)), shown(given))
                fitted += given is not UNFIT
            self.assertEqual(chart_of(("rules", chart)), chart)
            self.assertEqual(chart_of(shortened_map(mapping)), chart)
            self.assertEqual(chart_of(turned_map(mapping)), turned_chart(chart))
        self.assertGreater(fitted, 2000)

    def test_facts_of_after(self):
        chance, found = some_maps(161, 150, 2)
        for _ in range(250):
            a, b, c = (chance.choice(found) for _ in range(3))
            back = turned_map
            try:
                equal = [
                    (after(after(a, b), c), after(a, after(b, c))), (after(after(a, back(a)), a), a), (back(after(a, b)), after(back(b), back(a))),
                    (after(after(a, back(a)), after(b, back(b))), after(after(b, back(b)), after(a, back(a)))),
                ]
                for one, other in equal:
                    self.assertEqual(chart_of(one), chart_of(other), (one, other))
                    self.assertIs(same_map(one, other), True)
                own = chart_of(after(a, back(a)))
            except TooMany:
                continue
            self.assertTrue(all(plainmaps.plain_template(pattern) == template for pattern, template in own) or any(plainmaps.charts_of(pattern) for pattern, _ in own))
            self.assertIs(is_below(after(a, back(a)), SAME), True)

    def test_told_in_another_way(self):
        numbers = ("table", ((0, 0), (1, 1), (2, 2)))
        for one, other in [
            (("row", (SAME, SAME)), ("turn", (0, 1))), (("label", "a"), after(("wrap",), ("put", 1, 0, "a"))), (("pack", (2,)), after(("wrap",), ("row", (("row", (SAME, SAME)),)))),
            (("unlabel", "a"), after(("drop", 1, 0, "a"), ("unwrap",))), (("ways", (("a", "b", SAME),)), after(("unlabel", "a"), ("label", "b"))),
            (("table", ((1, 2), (2, 1))), ("rules", ((atom(1), atom(2)), (atom(2), atom(1))))), (after(numbers, ("table", ((1, "x"),))), ("table", ((1, "x"),))),
            (("put", 2, 1, 0), after(("put", 2, 2, 0), ("turn", (0, 2, 1)))), (("each", ("after", ("wrap",), ("unwrap",))), ("each", SAME)), (("table", ()), after(("label", "a"), ("unlabel", "b"))),
            (after(("each", ("table", ())), ("put", 0, 0, 1)), ("table", (((), (1,)),))), (("row", (("table", ((1, 2), (3, 4))),)), ("table", (((1,), (2,)), ((3,), (4,))))),
            (("pack", (0, None)), ("put", 1, 0, ())),
        ]:
            self.assertEqual(chart_of(one), chart_of(other))
            self.assertEqual([same_map(one, other), parting(one, other), is_below(one, other), is_below(other, one)], [True, None, True, True])

    def test_too_many(self):
        grid = lambda *sizes: ("row", tuple(table(size) for size in sizes))
        chart = lambda many: ("rules", chart_of(table(many)))
        for good, bad in [
            (table(100), table(101)), (grid(10, 10), grid(10, 11)), (grid(50, 2), grid(51, 2)), (("each", table(99)), ("each", table(100))), (("row", (("each", table(49)), table(2))), ("row", (("each", table(50)), table(2)))),
            (("ways", (("a", "a", table(50)), ("b", "b", table(50)))), ("ways", (("a", "a", table(50)), ("b", "b", table(51))))),
            (("row", (("each", table(49)), ("each", table(50)))), ("row", (("each", table(50)), ("each", table(50))))), (("each", ("each", table(98))), ("each", ("each", table(99)))),
            (after(("each", table(10)), ("turn", (0, 1))), after(("each", table(10)), ("turn", (0, 1, 2)))), (after(("pack", (None, None)), ("each", table(10))), after(("pack", (None,) * 3), ("each", table(5)))),
            (chart(100), ("row", (chart(100), table(2)))),
            (after(table(100), ("table", ((1, 1),))), after(table(101), ("table", ((1, 1),)))), (after(("table", ((1, 1),)), table(100)), after(("table", ((1, 1),)), table(101))),
            (("row", (table(100), ("table", ()))), ("row", (table(101), ("table", ())))), (("row", (("table", ()),) + (table(2),) * 22), ("row", (table(2),) * 22)), (("row", (table(2),) * 22 + (("table", ()),)), ("row", (table(2),) * 7)),
            (after(grid(10, 10), ("table", ())), after(grid(10, 11), ("table", ()))), (("each", after(table(99), ("table", ()))), ("each", after(table(101), ("table", ())))),
        ]:
            self.assertIs(is_chart(chart_of(good)), True)
            for call in (chart_of, shortened_map, lambda m: same_map(m, SAME), lambda m: same_map(SAME, m), lambda m: is_below(m, SAME), lambda m: is_below(SAME, m), lambda m: parting(m, SAME), lambda m: parting(SAME, m)):
                call(good)
                with self.assertRaises(TooMany) as caught:
                    call(bad)
                self.assertEqual(caught.exception.count, 100)

    def test_many_choices_that_come_to_nothing(self):
        wide = ("after", ("each", table(2)), ("pack", (None,) * 39 + (1,)))
        with self.assertRaises(TooMany):
            chart_of(wide)
        none = ("after", ("each", table(2)), ("drop", 39, 39, "x"))
        self.assertEqual(chart_of(none), ())
        inner = ("after", ("row", (("each", table(2)), ("table", ((1, 1),)))), ("row", (("turn", tuple(range(40))), ("table", ((2, 2),)))))
        self.assertRaises(TooMany, chart_of, ("after", ("each", table(2)), ("turn", tuple(range(40)))))
        self.assertEqual(chart_of(inner), ())
        nest = ("after", ("row", (("each", ("row", (table(60),))), ("label", "a"))), ("row", (("each", ("each", SAME)), ("unlabel", "b"))))
        self.assertEqual(chart_of(nest), ())

    def test_deep_things(self):
        deep = nested(129)
        mapping = ("table", ((deep, 1), (nested(129, "x"), 2)))
        chart = chart_of(mapping)
        self.assertIs(is_chart(chart), True)
        self.assertEqual([mapped(("rules", chart), deep), mapped(turned_map(("rules", chart)), 2)], [1, nested(129, "x")])
        put = ("put", 1, 0, nested(129))
        self.assertEqual(mapped(("rules", chart_of(put)), (1,)), (nested(129), 1))
        self.assertEqual(chart_of(after(put, turned_map(put))), ((row(ANY), row(ANY)),))
        self.assertEqual(text(parting(mapping, ("table", ((deep, 1),)))), text(nested(129, "x")))
        up = ("label", "a")
        for _ in range(5):
            up = ("after", up, up)
        ((pattern, template),) = chart_of(up)
        self.assertEqual(pattern, ANY)
        self.assertEqual(chart_of(after(up, turned_map(up))), ((ANY, ANY),))
        self.assertIs(same_map(after(turned_map(up), up), SAME), False)

    def test_nested_twelve_deep(self):
        mapping = table(2)
        for k in range(11):
            mapping = ("each", mapping) if k & 1 else ("row", (mapping,))
        chart = chart_of(mapping)
        self.assertTrue(plainmaps.clean(chart))
        self.assertEqual(chart_of(turned_map(mapping)), turned_chart(chart))
        thing = 0
        for k in range(11):
            thing = (thing,)
        self.assertEqual(mapped(mapping, thing), mapped(("rules", chart), thing))
        self.assertEqual(parting(mapping, shortened_map(mapping)), None)


class ComparedTest(unittest.TestCase):
    def test_random_pairs(self):
        chance, found = some_maps(162, 260)
        found += [SAME, ("table", ()), ("each", SAME)]
        below = 0
        for _ in range(700):
            one, other = chance.choice(found), chance.choice(found)
            if chance.random() < 0.5:
                other = self.changed(chance, one)
            try:
                below += self.check(chance, one, other)
            except TooMany:
                continue
        self.assertGreater(below, 40)

    def changed(self, chance, mapping):
        """A map that is often below the map, or above it."""
        word = mapping[0]
        if chance.random() < 0.3:
            return ("after", mapping, chance.choice([("table", ((1, 1), ("a", "a"))), ("each", SAME), ("row", (SAME, SAME))]))
        if word == "table":
            return ("table", mapping[1][1:] + (((9, 9), (9, 9)),) if chance.random() < 0.5 else mapping[1][1:])
        if word == "ways" and mapping[1]:
            return ("ways", mapping[1][1:])
        if word == "rules" and mapping[1]:
            return ("rules", mapping[1][1:])
        if word == "row" and mapping[1]:
            return ("row", (self.changed(chance, mapping[1][0]),) + mapping[1][1:])
        if word == "each":
            return ("each", self.changed(chance, mapping[1]))
        if word == "after":
            return ("after", mapping[1], self.changed(chance, mapping[2]))
        return chance.choice([mapping, ("after", mapping, SAME), ("after", SAME, mapping)])

    def check(self, chance, one, other):
        charts = chart_of(one), chart_of(other)
        equal = charts[0] == charts[1]
        self.assertIs(same_map(one, other), equal, (one, other))
        thing = parting(one, other)
        self.assertIs(thing is None, equal)
        if thing is not None:
            self.assertNotEqual(shown(tried(one, thing)), shown(tried(other, thing)), (one, other, thing))
            self.assertNotEqual(shown(plainmaps.given(one, thing)), shown(plainmaps.given(other, thing)))
        told = is_below(one, other)
        try:
            by_fact = chart_of(after(after(one, turned_map(one)), other)) == charts[0]
            self.assertIs(told, by_fact, (one, other))
        except TooMany:
            self.assertIs(told, False)
        self.assertIs(equal, told and is_below(other, one))
        if told:
            for some in things_for(chance, one):
                given = plainmaps.given(one, some)
                if given is not UNFIT:
                    self.assertEqual(shown(plainmaps.given(other, some)), shown(given))
        return told and not equal

    def test_lengths_and_places_count(self):
        ones, twos = ((atom(1), atom(2)),), ((atom(1), atom(3)),)
        swap = lambda chart, first, second: ("rules", ((row(("each", 0, chart), ("each", 1, chart)), row(("each", first), ("each", second))),))
        for one, other in [
            (swap(ones, 0, 1), swap(ones, 1, 0)), (swap(ones, 0, 1), swap(twos, 0, 1)), (("each", SAME), SAME), (("each", SAME), ("row", (SAME,))), (("each", SAME), ("turn", (0, 1))),
            (("row", (SAME, SAME)), ("turn", (1, 0))), (("label", "a"), ("label", "b")), (("table", ((0, 1),)), ("table", ((0, 2),))), (("table", ((0, 1),)), ("table", ())), (("each", ("table", ())), ("table", ())),
            (("each", ("table", ((1, 1),))), ("each", ("table", ((1, 1), (2, 2))))), (("each", ("each", SAME)), ("each", SAME)), (("each", ("each", ("table", ((0, 0),)))), ("each", ("each", SAME))),
            (("table", ((0, "0"),)), ("table", ((0, 0),))), (("wrap",), SAME), (("put", 0, 0, 1), ("put", 0, 0, 2)), (("pack", (1, 0)), ("pack", (0, 1))),
            (("rules", ((ANY, row(ANY, row(atom(0), atom(1), atom(2)))),)), ("rules", ((ANY, row(ANY, row(atom(0), atom(1), atom(3)))),))),
            (("each", ("rules", ((row(ANY, ("any", 1)), row(ANY, ("any", 1))),))), ("each", ("rules", ((row(ANY, ("any", 1)), row(("any", 1), ANY)),)))),
        ]:
            self.check(random.Random(163), one, other)
            self.assertIs(same_map(one, other), False)
            self.assertIsNotNone(parting(one, other))
        self.assertEqual([is_below(("each", SAME), SAME), is_below(SAME, ("each", SAME)), is_below(("turn", (0, 1)), ("each", SAME)), is_below(("each", SAME), ("turn", (0, 1)))], [True, False, True, False])
        self.assertEqual([is_below(("table", ()), ("wrap",)), is_below(("wrap",), ("table", ())), is_below(("each", ("table", ((1, 1),))), SAME)], [True, False, True])

    def test_large_charts(self):
        one, other = ("row", (table(10), table(10))), ("row", (table(10), table(9)))
        self.assertEqual([same_map(one, other), is_below(other, one), is_below(one, other)], [False, True, False])
        self.assertEqual(parting(one, other)[1], 9)
        eaches = ("row", tuple(("each", table(2, 3 * k)) for k in range(20)))
        self.assertIs(same_map(eaches, shortened_map(eaches)), True)
        bent = ("row", tuple(("each", table(2, 3 * k + (k == 19))) for k in range(20)))
        self.check(random.Random(164), eaches, bent)

    def test_errors_in_order(self):
        big = table(101)
        for value in ANY_VALUES + [("other",), ("row", (1,))]:
            for call in (chart_of, shortened_map):
                with self.assertRaises(InvalidMap):
                    call(mapping=value)
            for call in (same_map, is_below, parting):
                with self.assertRaises(InvalidMap):
                    call(mapping=value, other_mapping=big)
                with self.assertRaises(InvalidMap):
                    call(mapping=big, other_mapping=value)


if __name__ == "__main__":
    unittest.main()
