"""[48]: clean charts and turned charts, against the words of [48]."""

import itertools
import random
import unittest

from tests import plainmaps
from tests.examples import ANY_VALUES, SubInt, SubStr, SubTuple
from termsonwires.errors import InvalidChart
from termsonwires.patterns import is_chart, turned_chart

ANY = ("any", 0)
SAME = (ANY, ANY)


def atom(value):
    return ("atom", value)


def row(*parts):
    return ("tuple", parts)


def each(k, *rules):
    return ("each", k, tuple(rules))


ONES = ((atom(1), atom(2)),)


class PatternsTest(unittest.TestCase):
    def holds(self, chart, expected):
        self.assertIs(plainmaps.clean(chart), expected, chart)
        self.assertIs(is_chart(chart), expected, chart)

    def test_each_form(self):
        for chart in [
            (), (SAME,), ((atom(1), atom("1")),), ((row(), row()),), ((row(ANY, ("any", 1)), row(("any", 1), ANY)),), ((each(0, SAME), ("each", 0)),),
            ((row(each(0, *ONES), ("any", 1)), row(("any", 1), atom("x"), ("each", 0))),), ((each(0, (each(0, *ONES), row(("each", 0)))), ("each", 0)),),
            ((atom(-10 ** 40 + 1), atom(10 ** 40 - 1)),), ((atom("~" * 12), atom("")),),
            ((atom(1), atom(2)), (atom(2), atom(1))), ((each(0, *ONES), row(("each", 0))), (row(atom(3)), row())),
        ]:
            self.holds(chart, True)
            self.assertEqual(turned_chart(chart), plainmaps.turned(chart))
            self.assertEqual(turned_chart(turned_chart(chart)), chart)

    def test_patterns_that_meet(self):
        for one, other in [
            (ANY, atom(1)), (ANY, row()), (row(ANY), row(atom(2))), (row(ANY, atom(1)), row(atom(2), ANY)), (each(0, SAME), row()), (each(0, *ONES), row(atom(1), atom(1))),
            (each(0, *ONES), each(0, (atom(3), atom(3)))), (each(0, SAME), row(row(row(atom(7))))), (row(row(row(ANY))), row(row(row(row(atom(1)))))),
            (each(0, (row(ANY), ANY)), row(row(atom(1)), row(row()))), (each(0, (each(0, *ONES), ("each", 0))), row(row(), row(atom(1), atom(1)))),
            (each(0, (atom(1), atom(1)), (row(ANY), ANY)), row(atom(1), row(atom(2)))), (ANY, each(0, SAME)),
        ]:
            self.both_ways(one, other, False)

    def test_patterns_that_do_not_meet(self):
        for one, other in [
            (atom(1), atom("1")), (atom(1), row()), (row(), row(ANY)), (row(atom(1), ANY), row(atom(2), ANY)), (each(0, *ONES), atom(1)), (each(0, *ONES), row(atom(2))),
            (each(0, *ONES), row(atom(1), atom(1), atom(2))), (each(0, *ONES), row(row())), (each(0, (each(0, *ONES), ("each", 0))), row(row(atom(1)), row(atom(2)))),
            (row(row(row(atom(1)))), row(row(row(atom(2))))), (row(each(0, SAME), atom(1)), row(each(0, SAME), atom(2))),
            (each(0, (row(ANY), ANY)), row(row(), row())), (each(0, (atom(2), atom(3))), row(atom(1))),
        ]:
            self.both_ways(one, other, True)

    def both_ways(self, one, other, clean):
        """As patterns of two rules with other templates, and as templates of two turned ones."""
        template = lambda form, k: row(atom(k), *[(word, number) for number, word in plainmaps.holes(form)])
        chart = tuple(sorted([(one, template(one, 1)), (other, template(other, 2))], key=lambda rule: plainmaps.text(rule[0])))
        self.holds(chart, clean)
        charts = plainmaps.charts_of
        back = []
        for form, k in ((one, 1), (other, 2)):
            stand = [("any", number) if word == "any" else ("each", number, plainmaps.turned(charts(form)[number])) for number, word in plainmaps.holes(form)]
            back.append((row(atom(k), *stand), plainmaps.plain_template(form)))
        self.holds(tuple(sorted(back, key=lambda rule: plainmaps.text(rule[0]))), clean)

    def test_rules_out_of_order(self):
        rules = [(atom(k), atom(k)) for k in (1, 10, 2, "a")]
        ordered = sorted(rules, key=lambda rule: plainmaps.text(rule[0]))
        self.assertEqual([rule[0][1] for rule in ordered], ["a", 1, 10, 2])
        for order in itertools.permutations(rules):
            self.holds(order, list(order) == ordered)
        self.holds(((atom(1), atom(1)), (atom(1), atom(1))), False)
        self.holds(((atom(1), atom(1)), (atom(2), atom(1))), False)

    def test_holes(self):
        two = row(ANY, ("any", 1))
        for pattern, template, expected in [
            (two, row(("any", 1), ANY), True), (two, ANY, False), (two, row(ANY, ANY, ("any", 1)), False), (two, row(ANY, ("any", 2)), False), (two, row(ANY, ("each", 1)), False),
            (two, row(ANY, ("any", 1), ("any", 2)), False), (row(("any", 1), ANY), row(ANY, ("any", 1)), False), (row(ANY, ANY), row(ANY), False), (("any", 1), ("any", 1), False),
            (row(ANY, ("any", 2)), row(ANY, ("any", 2)), False), (each(0, *ONES), ("any", 0), False), (each(1, *ONES), ("each", 1), False), (each(0, *ONES), ("each", 0, ONES), False),
            (("each", 0), ("each", 0), False), (each(0), ("each", 0), False), (each(0, (ANY, atom(1))), ("each", 0), False), (row(ANY, each(1, SAME)), row(("each", 1), ANY), True),
            (each(0, (("any", 1), ("any", 1))), ("each", 0), False), (each(0, *ONES[::-1]), ("each", 0), True), (each(0, (atom(2), atom(2)), (atom(1), atom(1))), ("each", 0), False),
            (each(0, SAME, (atom(1), atom(1))), ("each", 0), False), (("any", -1), ("any", -1), False), (("any", True), ("any", 0), False), (("any", 0), ("any", False), False),
            (("any", SubInt(0)), ANY, False), (("any", "0"), ("any", "0"), False), (("any", 0, ()), ANY, False), (("any",), ("any",), False),
        ]:
            self.holds(((pattern, template),), expected)

    def test_other_values(self):
        for value in ANY_VALUES + [
            [SAME], SubTuple((SAME,)), (list(SAME),), (SubTuple(SAME),), ((ANY,),), ((ANY, ANY, ANY),), ((["any", 0], ANY),), ((SubTuple(ANY), ANY),), (((SubStr("any"), 0), ANY),),
            ((atom(True), atom(1)),), ((atom(None), atom(1)),), ((atom(10 ** 40), atom(1)),), ((atom("x" * 13), atom(1)),), ((atom("%"), atom(1)),), ((atom(1.0), atom(1)),),
            ((atom(()), atom(1)),), ((("atom",), atom(1)),), ((("atom", 1, 2), atom(1)),), ((("tuple",), atom(1)),), ((("tuple", [ANY]), ANY),), ((("tuple", ANY), ANY),),
            ((("tuple", (), ()), atom(1)),), ((("other", 0), ANY),), ((("other", ()), atom(1)),), ((atom(1), ("other", ())),), ((("each", 0, [SAME]), ("each", 0)),), ((("each", 0, SAME), ("each", 0)),), ((atom(SubInt(1)), atom(1)),),
            ((("each", True, (SAME,)), ("each", 1)),), ((atom(SubStr("a")), atom(1)),), ((("tuple", SubTuple()), atom(1)),), ((None, None),), (None,),
        ]:
            self.assertIs(is_chart(value), value == () and type(value) is tuple, repr(value)[:60])
            if not (value == () and type(value) is tuple):
                with self.assertRaises(InvalidChart):
                    turned_chart(chart=value)
        self.assertIs(is_chart(value=()), True)
        self.assertEqual(turned_chart(()), ())

    def test_random_ones(self):
        chance = random.Random(140)
        clean = 0
        for _ in range(2500):
            rules = [plainmaps.random_rule(chance, 3) for _ in range(chance.randint(1, 4))]
            chart = tuple(sorted(rules, key=lambda rule: plainmaps.text(rule[0])))
            expected = plainmaps.clean(chart)
            self.assertIs(is_chart(chart), expected, chart)
            if expected:
                clean += 1
                back = turned_chart(chart)
                self.assertEqual(back, plainmaps.turned(chart))
                self.assertTrue(plainmaps.clean(back))
                self.assertEqual(turned_chart(back), chart)
                for pattern, template in chart:
                    thing = plainmaps.pattern_thing(chance, pattern)
                    self.assertEqual(plainmaps.charted(back, plainmaps.charted(chart, thing)), thing)
        self.assertGreater(clean, 400)

    def test_meeting_against_things(self):
        chance = random.Random(141)
        apart = 0
        for _ in range(400):
            one, other = plainmaps.random_pattern(chance, 3, [0]), plainmaps.random_pattern(chance, 3, [0])
            both = False
            for form, against in ((one, other), (other, one)):
                both |= any(plainmaps.bound(against, plainmaps.pattern_thing(chance, form)) is not None for _ in range(12))
            if both:
                self.assertTrue(plainmaps.meet(one, other), (one, other))
                self.both_ways(one, other, False)
            apart += not plainmaps.meet(one, other)
        self.assertGreater(apart, 50)

    def test_deep_ones(self):
        deep, other = atom(1), atom(2)
        for _ in range(60):
            deep, other = row(deep), row(other)
        self.assertIs(is_chart(((deep, other),)), True)
        self.assertIs(is_chart(((deep, atom(1)), (other, atom(2)))), True)
        nested = ONES
        for _ in range(12):
            nested = ((each(0, *nested), row(("each", 0))),)
        self.assertIs(is_chart(nested), True)
        self.assertEqual(turned_chart(turned_chart(nested)), nested)
        self.assertNotEqual(turned_chart(nested), nested)
        many = tuple(sorted([(atom(k), row(atom(k))) for k in range(900)], key=lambda rule: plainmaps.text(rule[0])))
        self.assertIs(is_chart(many), True)
        self.assertIs(is_chart(many[::-1]), False)


if __name__ == "__main__":
    unittest.main()
