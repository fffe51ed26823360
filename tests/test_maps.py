"""[49]: maps, each row of the table at its bounds, and what they give, against a second reading of the table."""

import random
import unittest

from tests import plainmaps
from tests.examples import ANY_VALUES, SubInt, SubList, SubStr, SubTuple, nested
from termsonwires.errors import InvalidMap, InvalidThing, Unfit
from termsonwires.maps import is_map, mapped, turned_map
from termsonwires.texts import thing_text

SAME = ("same",)
ANY = ("any", 0)
MORE = "x" * 12


class IsMapTest(unittest.TestCase):
    def check(self, good, bad):
        for value in good:
            self.assertIs(is_map(value), True, repr(value)[:80])
            self.assertIs(is_map(("each", ("row", (SAME, value)))), True)
        for value in bad:
            self.assertIs(is_map(value), False, repr(value)[:80])
            self.assertIs(is_map(("ways", (("a", "b", SAME), ("c", "d", ("after", SAME, value))))), False)

    def test_bare_ones(self):
        self.check([("same",), ("wrap",), ("unwrap",)], [("same", 1), ("wrap", SAME), ("unwrap", ()), "same", ("Same",), (SubStr("same"),), SubTuple(SAME), ["same"]])

    def test_table(self):
        deep, deeper = nested(129), nested(130)
        self.check(
            [("table", ()), ("table", ((1, 2),)), ("table", ((1, 2), ("1", 1), (2, "1"))), ("table", ((deep, (deep,) * 0), ("", deep))), ("table", ((nested(129, 1), 1), (nested(129, 2), 2))),
             ("table", ((10 ** 40 - 1, MORE),))],
            [("table",), ("table", ((1, 2), (1, 3))), ("table", ((1, 2), (3, 2))), ("table", ((1, (2,)), (2, (2,)))), ("table", ((deeper, 1),)), ("table", ((1, deeper),)),
             ("table", ((True, 1),)), ("table", ((1, 2, 3),)), ("table", ([1, 2],)), ("table", [(1, 2)]), ("table", (1, 2)), ("table", ((10 ** 40, 1),)), ("table", ((MORE + "x", 1),)),
             ("table", ((1, None),)), ("table", ((1, [1]),)), ("table", ((1, SubInt(1)),)), ("table", ((1, 2),), ()), ("table", ((nested(129, 1), 1), (nested(129, 1), 2)))])

    def test_row_each_ways_after(self):
        self.check(
            [("row", ()), ("row", (SAME, ("wrap",))), ("each", SAME), ("each", ("each", ("row", ()))), ("ways", ()), ("ways", (("", "", SAME),)), ("ways", (("a", "b", SAME), ("b", "a", SAME))),
             ("ways", ((MORE, MORE, SAME),)), ("after", SAME, ("wrap",)), ("after", ("wrap",), ("table", ()))],
            [("row",), ("row", SAME), ("row", [SAME]), ("row", (SAME, 1)), ("row", (), ()), ("each",), ("each", 1), ("each", SAME, SAME), ("each", ()), ("ways", (("a", "b", SAME), ("a", "c", SAME))),
             ("ways", (("a", "b", SAME), ("c", "b", SAME))), ("ways", (("a", "b"),)), ("ways", ((1, "b", SAME),)), ("ways", (("a", 1, SAME),)), ("ways", (("a", "b", 1),)), ("ways", [("a", "b", SAME)]),
             ("ways", (["a", "b", SAME],)), ("ways", ((MORE + "x", "b", SAME),)), ("ways", (("a", MORE + "x", SAME),)), ("ways", (("a'", "b", SAME),)), ("ways",), ("after", SAME), ("after", SAME, SAME, SAME),
             ("after", SAME, None), ("after", 1, SAME), ("after",), ("ways", ((SubStr("a"), "b", SAME),))])

    def test_turn(self):
        forty = tuple(range(40))
        self.check(
            [("turn", ()), ("turn", (0,)), ("turn", (2, 0, 1)), ("turn", forty[::-1])],
            [("turn", (1,)), ("turn", (0, 0)), ("turn", (0, 2)), ("turn", tuple(range(41))), ("turn", (True, 0)), ("turn", (0, True)), ("turn", (False,)), ("turn", [0]), ("turn", ("0",)), ("turn", (0.0,)),
             ("turn", (-1, 0)), ("turn",), ("turn", (0,), ()), ("turn", (SubInt(0),)), ("turn", (None,)), ("turn", 0)])

    def test_labels(self):
        for word in ("label", "unlabel"):
            self.check([(word, ""), (word, MORE), (word, "a b~")], [(word,), (word, MORE + "x"), (word, 1), (word, "%"), (word, "'"), (word, "\\"), (word, "\n"), (word, SubStr("a")), (word, ()), (word, "a", "b")])

    def test_put_and_drop(self):
        for word in ("put", "drop"):
            self.check(
                [(word, 0, 0, 1), (word, 40, 40, ()), (word, 40, 0, nested(129)), (word, 3, 3, ("a", 1))],
                [(word, 0, 1, 1), (word, 41, 0, 1), (word, -1, -1, 1), (word, 2, 3, 1), (word, 2, -1, 1), (word, True, 0, 1), (word, 1, False, 1), (word, 1, 0, True), (word, 1, 0, nested(130)),
                 (word, 1, 0, None), (word, 1, 0), (word, 1, 0, 1, 1), (word, "1", 0, 1), (word, 1, "0", 1), (word, 1, 0, [1]), (word, SubInt(1), 0, 1), (word, 40, 41, 1)])

    def test_pack_and_unpack(self):
        for word in ("pack", "unpack"):
            self.check(
                [(word, ()), (word, (None,)), (word, (0,) * 40), (word, (40,)), (word, (None,) * 40), (word, (20, None, 19)), (word, (0, None, 3))],
                [(word, (0,) * 41), (word, (41,)), (word, (None,) * 41), (word, (20, None, 20)), (word, (-1,)), (word, (True,)), (word, ("1",)), (word, [1]), (word, 1), (word,), (word, (1,), ()),
                 (word, (SubInt(1),)), (word, (1.0,)), (word, ((),)), (word, (-1, 5))])

    def test_rules(self):
        self.check(
            [("rules", ()), ("rules", ((ANY, ANY),)), ("rules", ((("each", 0, ((ANY, ANY),)), ("each", 0)),))],
            [("rules",), ("rules", [(ANY, ANY)]), ("rules", ((ANY, ANY), (("atom", 1), ("atom", 1)))), ("rules", ((("atom", 1), ANY),)), ("rules", ((ANY, ANY),), ()), ("rules", None), ("rules", ((ANY, ("any", 1)),))])

    def test_other_values(self):
        for value in ANY_VALUES + [("other",), (1,), (None,), ("sames",), ((("same",),),), SubList(["same"]), nested(100, SAME), ("each", nested(100)), (SAME,)]:
            self.assertIs(is_map(value), False, repr(value)[:60])
            for call in (lambda mapping: turned_map(mapping), lambda mapping: mapped(mapping, None)):
                with self.assertRaises(InvalidMap):
                    call(value)
        deep = SAME
        for _ in range(138):
            deep = ("each", deep)
        self.assertIs(is_map(deep), True)
        self.assertIs(is_map(("table", tuple((k, -k) for k in range(2200)))), True)
        self.assertIs(is_map(("table", tuple((k, -k) for k in range(2200)) + ((7, 1),))), False)


class MappedTest(unittest.TestCase):
    def check(self, mapping, fits, unfits):
        back = turned_map(mapping)
        self.assertEqual(turned_map(back), mapping)
        for thing, given in fits:
            self.assertEqual(thing_text_of(mapped(mapping, thing)), thing_text_of(given), (mapping, thing))
            self.assertEqual(thing_text_of(mapped(back, given)), thing_text_of(thing))
        for thing in unfits:
            with self.assertRaises(Unfit):
                mapped(mapping, thing)

    def test_each_row_of_the_table(self):
        tuples = [1, "a", (), (1,), ((),)]
        self.check(SAME, [(thing, thing) for thing in tuples], [])
        self.check(("table", ((1, "1"), ("1", (1,)), ((1,), 1))), [(1, "1"), ("1", (1,)), ((1,), 1)], [2, (), ((1,),), "2", ("1",)])
        self.check(("table", ()), [], tuples)
        self.check(("row", (SAME, ("wrap",))), [((1, 2), (1, (2,)))], tuples + [(1, 2, 3)])
        self.check(("row", ()), [((), ())], [1, (1,), ""])
        self.check(("row", (("table", ((1, 2),)),)), [((1,), (2,))], [(2,), 1])
        self.check(("each", ("table", ((1, 2),))), [((), ()), ((1,), (2,)), ((1,) * 5, (2,) * 5)], [1, "", (2,), (1, 2), ((1,),)])
        self.check(("ways", (("a", "b", ("wrap",)), ("b", "c", SAME))), [(("a", 1), ("b", (1,))), (("b", ()), ("c", ()))], tuples + [("c", 1), ("a",), ("a", 1, 1), (1, 1), ((), 1)])
        self.check(("ways", (("a", "a", ("table", ())),)), [], [("a", 1)])
        self.check(("turn", (2, 0, 1)), [(("x", "y", "z"), ("z", "x", "y"))], tuples + [(1, 2), (1, 2, 3, 4)])
        self.check(("turn", ()), [((), ())], [1, (1,)])
        self.check(("label", "a"), [(thing, ("a", thing)) for thing in tuples], [])
        self.check(("unlabel", "a"), [(("a", thing), thing) for thing in tuples], tuples + [("b", 1), ("a", 1, 2), (("a",), 1), (1, "a")])
        self.check(("wrap",), [(thing, (thing,)) for thing in tuples], [])
        self.check(("unwrap",), [((thing,), thing) for thing in tuples], [1, "", (), (1, 2)])

    def test_put_drop_pack_unpack(self):
        self.check(("put", 2, 1, ("x",)), [((1, 2), (1, ("x",), 2))], [1, (), (1,), (1, 2, 3)])
        self.check(("put", 2, 2, 0), [((1, 2), (1, 2, 0))], [])
        self.check(("put", 0, 0, 0), [((), (0,))], [(1,), 0])
        self.check(("drop", 2, 1, 1), [((5, 1, 6), (5, 6)), ((1, 1, 1), (1, 1))], [(5, "1", 6), (5, 6), (5, 1, 6, 1), 1, (1, 5, 5), (5, (1,), 6)])
        self.check(("drop", 0, 0, ()), [(((),), ())], [(), (1,), (((),),)])
        self.check(("pack", (2, None, 0, 1)), [((1, 2, 3, 4), ((1, 2), 3, (), (4,)))], [(), 1, (1, 2, 3), (1, 2, 3, 4, 5)])
        self.check(("pack", ()), [((), ())], [1, (1,)])
        self.check(("pack", (0, 0)), [((), ((), ()))], [(1,)])
        self.check(("unpack", (2, None, 0, 1)), [(((1, 2), (3,), (), ((),)), (1, 2, (3,), ()))], [((1, 2), 3, ()), ((1,), 3, (), (4,)), (1, 3, (), (4,)), ((1, 2), 3, (0,), (4,)), "ab"])
        self.check(("put", 40, 40, 1), [(tuple(range(40)), tuple(range(40)) + (1,))], [tuple(range(41))])
        self.check(("pack", (20, 20)), [(tuple(range(40)), (tuple(range(20)), tuple(range(20, 40))))], [])

    def test_after_and_rules(self):
        self.check(("after", ("label", "a"), ("unlabel", "a")), [(1, 1), ((), ())], [])
        self.check(("after", ("label", "a"), ("unlabel", "b")), [], [1, (), ("a", 1)])
        self.check(("after", ("unlabel", "a"), ("wrap",)), [(("a", 1), (1,))], [1, ("b", 1)])
        chart = ((("each", 0, ((("atom", 1), ("atom", 2)), (("tuple", (ANY,)), ("tuple", (("atom", 0), ANY))))), ("tuple", (("each", 0),))),)
        self.check(("rules", chart), [((), ((),)), ((1, 1), ((2, 2),)), ((1, (7,), ((),)), ((2, (0, 7), (0, ())),))], [1, (2,), ((),), ((1, 2),)])
        two = ((("tuple", (ANY, ("atom", 1))), ("tuple", (ANY,))), (("tuple", (ANY, ("atom", 2))), ("tuple", (("atom", "x"), ANY))))
        self.check(("rules", two), [((5, 1), (5,)), (((), 2), ("x", ()))], [(5, 3), (5,), (5, "1"), 1])
        self.check(("rules", ()), [], [1, ()])

    def test_deeper_than_plain_things(self):
        deep = nested(129)
        self.assertEqual(mapped(("wrap",), deep), (deep,))
        twice = mapped(("after", ("label", "a"), ("wrap",)), deep)
        self.assertEqual(depth(twice), 132)
        self.assertEqual(mapped(("after", ("after", ("wrap",), ("wrap",)), ("after", ("unwrap",), ("unwrap",))), deep), deep)
        self.assertEqual(mapped(("put", 1, 0, deep), (nested(128),)), (deep, nested(128)))
        self.assertEqual(mapped(("drop", 0, 0, nested(128)), (nested(128),)), ())
        with self.assertRaises(InvalidThing):
            mapped(("unwrap",), (deep,))
        up = ("wrap",)
        for _ in range(7):
            up = ("after", up, up)
        self.assertEqual(depth(mapped(up, deep)), 130 + 128)
        down = turned_map(up)
        self.assertEqual(depth(mapped(("after", up, down), deep)), 130)
        rules = ("rules", ((ANY, ("tuple", (("tuple", (ANY,)),))),))
        self.assertEqual(depth(mapped(rules, deep)), 132)
        with self.assertRaises(Unfit):
            mapped(("after", ("wrap",), ("table", ((deep, 1),))), deep)
        with self.assertRaises(Unfit):
            mapped(("after", ("wrap",), ("drop", 0, 0, nested(128))), deep)

    def test_errors_in_order(self):
        for value in ANY_VALUES + [nested(130), (1, True), (1, None), [1], 10 ** 40, "x" * 13, "%", SubInt(1), (SubTuple(),), (1, (2, 1.5))]:
            with self.assertRaises(InvalidMap):
                mapped(("other",), value)
            if not is_plain(value):
                with self.assertRaises(InvalidThing):
                    mapped(mapping=("unwrap",), plain=value)
        with self.assertRaises(Unfit):
            mapped(("unwrap",), 1)

    def test_random_maps_and_things(self):
        chance = random.Random(150)
        fitted = 0
        for _ in range(2500):
            mapping = plainmaps.random_map(chance, 3)
            self.assertIs(is_map(mapping), True, mapping)
            back = turned_map(mapping)
            self.assertEqual(back, plainmaps.turned_map(mapping))
            self.assertEqual(turned_map(back), mapping)
            for thing in [plainmaps.fitting_thing(chance, mapping) for _ in range(3)] + [plainmaps.random_thing(chance, 3)]:
                if thing is plainmaps.UNFIT:
                    continue
                given = plainmaps.given(mapping, thing)
                if given is plainmaps.UNFIT:
                    with self.assertRaises(Unfit):
                        mapped(mapping, thing)
                else:
                    fitted += 1
                    told = mapped(mapping, thing)
                    self.assertEqual(thing_text(told), thing_text(given), (mapping, thing))
                    self.assertEqual(thing_text(mapped(back, told)), thing_text(thing))
        self.assertGreater(fitted, 3000)

    def test_large_things(self):
        many = tuple((k, (k, "x")) for k in range(700))
        self.assertEqual(mapped(("each", ("row", (SAME, ("turn", (1, 0))))), many), tuple((k, ("x", k)) for k in range(700)))
        chart = ((("each", 0, ((("tuple", (ANY, ("tuple", (("any", 1), ("atom", "x"))))), ("tuple", (("any", 1), ANY))),)), ("each", 0)),)
        self.assertEqual(mapped(("rules", chart), many), tuple((k, k) for k in range(700)))


def thing_text_of(thing):
    return plainmaps.text(thing)


def depth(thing):
    return 1 + max(map(depth, thing), default=0) if type(thing) is tuple else 0


def is_plain(value):
    if type(value) is tuple:
        return depth_within(value, 130) and all(is_plain(part) for part in value)
    return plainmaps.is_atom(value)


def depth_within(value, most):
    return type(value) is not tuple or most > 0 and all(depth_within(part, most - 1) for part in value)


if __name__ == "__main__":
    unittest.main()
