"""[14]: things and their words in all sheets, the empty word, and layouts."""

import unittest

from tests import oracle
from tests.examples import ANY_VALUES, BOX, CODES, EVEN, TREE, SubInt, SubStr, SubTuple, nested
from termsonwires.changes import rooted
from termsonwires.errors import InvalidSheet, InvalidThing
from termsonwires.things import has_empty, is_thing, layout, word_of

LOOP_IN_NUMBERS = ("x", (("x", ("sized", ("ref", "x"), ("table", ((3, "000"), (1, "00"), (2, "1"))))),))


def one(term, *entries):
    return ("t", tuple(sorted((("t", term),) + entries)))


def joined_parts(sheet, rows, k):
    """The word of the layout's tuple k, by the tuples of its parts, and the index behind its last tuple."""
    name, path, thing, start, end = rows[k]
    term = oracle.at_place(sheet, (name, path))
    words, at = [], k + 1
    while at < len(rows) and rows[at][3] >= start and rows[at][4] <= end and is_below(sheet, rows[k], rows[at], term):
        word, at = joined_parts(sheet, rows, at)
        words.append(word)
        if len(words) == parts_due(term, thing):
            break
    return oracle_word(term, thing, words), at


def is_below(sheet, row, other, term):
    if term[0] == "ref":
        return other[:2] == (term[1], ())
    return other[0] == row[0] and other[1][:-1] == row[1] and len(other[1]) == len(row[1]) + 1


def parts_due(term, thing):
    return {"row": len(thing) if isinstance(thing, tuple) else 0, "times": term[1] if term[0] == "times" else 0,
            "counted": len(thing) + 1 if isinstance(thing, tuple) else 0, "sized": 2, "checked": 1, "ref": 1, "either": 1,
            "until": len(thing) if isinstance(thing, tuple) else 0}.get(term[0], 0)


def oracle_word(term, thing, words):
    if term[0] == "bits":
        return term[1]
    if term[0] == "table":
        return dict(term[1])[thing]
    if term[0] == "width":
        return oracle.things_by(term, {}, 8, 0)[thing]
    if term[0] == "either":
        return [way[1] for way in term[1] if way[0] == thing[0]][0] + words[0]
    if term[0] == "checked":
        return words[0] + oracle.check_of(term[1], words[0])
    return "".join(words) + (term[1] if term[0] == "until" else "")


class ThingsTest(unittest.TestCase):
    def has(self, sheet, pairs, others=()):
        for thing, word in pairs:
            self.assertIs(is_thing(sheet, thing), True, repr(thing))
            self.assertEqual(word_of(sheet, thing), word)
            self.assertEqual(layout(sheet, thing)[0], (sheet[0], (), thing, 0, len(word)))
        for thing in others:
            self.assertIs(is_thing(sheet, thing), False, repr(thing)[:50])
            with self.assertRaises(InvalidThing):
                word_of(sheet, thing)
            with self.assertRaises(InvalidThing):
                layout(sheet, thing)

    def test_leaves(self):
        self.has(one(("bits", "011")), [((), "011")], [[], 0, "", ((),), None, SubTuple()])
        self.has(one(("table", ((1, "0"), ("1", "0"), ("", ""), (-5, "11")))), [(1, "0"), ("1", "0"), ("", ""), (-5, "11")],
                 [True, 2, (1,), SubInt(1), SubStr("1"), [], None, ()])
        self.has(one(("table", ())), [], [0, "", ()])
        self.has(one(("width", 0)), [(0, "")], [1, False, -1, ()])
        self.has(one(("width", 3)), [(0, "000"), (5, "101"), (7, "111")], [8, -1, True, "5", SubInt(5), (5,)])
        self.has(one(("width", 8)), [(255, "1" * 8), (1, "00000001")], [256])

    def test_rows(self):
        self.has(one(("row", ())), [((), "")], [[], 0, ((),)])
        self.has(one(("row", (("width", 1), ("bits", "00")))), [((1, ()), "100")], [(1,), (1, (), ()), [1, ()], (True, ()), (2, ())])
        self.has(one(("times", 2, ("width", 1))), [((1, 0), "10")], [(1,), (1, 0, 1), (), 1])
        self.has(one(("times", 0, ("table", ()))), [((), "")], [(1,)])
        self.has(one(("either", (("a", "0", ("width", 1)), ("b", "", ("bits", ""))))), [(("a", 1), "01"), (("b", ()), "")],
                 [("c", 1), ("a", 2), ("a",), ("a", 1, 1), (SubStr("a"), 1), (1, 1), ["a", 1], "a"])

    def test_numbers(self):
        odd = ("table", ((0, "1"), (2, "0"), (-1, "00"), ("a", "01"), (3, "")))
        self.has(one(("counted", odd, ("width", 1))), [((), "1"), ((1, 0), "010"), ((1, 1, 1), "111")], [(1,), (0,) * 4, 0, [1, 0]])
        self.has(one(("counted", ("row", ()), ("width", 1))), [], [(), (1,)])
        self.has(one(("counted", ("width", 1), ("table", ()))), [((), "0")], [((),)])
        self.has(one(("until", "10", ("bits", ""))), [((), "10"), (((), ()), "10")], [((), 1)])
        self.has(one(("until", "1", ("width", 1))), [((), "1"), ((1, 0), "101")])
        self.has(one(("sized", odd, ("bits", "01"))), [((), "001")], [2])
        self.has(one(("sized", odd, ("bits", "0"))), [], [()])
        self.has(one(("sized", odd, ("bits", ""))), [((), "1")])
        self.has(one(("sized", ("sized", ("width", 2), ("width", 3)), ("bits", "1111"))), [((), "111001111")])

    def test_checks(self):
        machine = ((1, 0, "00"), (2, 1, "01"), (0, 2, "11"))
        self.has(one(("checked", machine, ("width", 3))), [(0, "00000"), (7, "11100"), (3, "01101"), (1, "00111")], [8])
        self.has(EVEN, [(2, "101"), (3, "110")], [True])

    def test_rings(self):
        self.has(TREE, [(("leaf", 3), "011"), (("node", (("leaf", 1), ("leaf", 2))), "1001010")],
                 [("node", ("leaf", 1)), ("leaf", True)])
        self.has(BOX, [(("leaf", 2), "011010")], [("node", (("leaf", 1), ("node", (("leaf", 1), ("leaf", 2))))), ("leaf", 4)])
        self.has(("z", (("z", ("sized", ("width", 3), ("ref", "z"))),)), [], [(), 0, "", 1])
        self.has(("a", (("a", ("ref", "b")), ("b", ("ref", "a")))), [], [(), 0, "x"])
        self.has(LOOP_IN_NUMBERS, [], [1, 2, 3])
        chain = ("x", (("x", ("sized", ("ref", "y"), ("table", ((2, "0"),)))),
                       ("y", ("sized", ("ref", "z"), ("table", ((1, "11"), (3, "0"))))), ("z", ("table", ((2, ""),)))))
        self.has(chain, [(2, "110")], [1, 3])
        list_ = ("l", (("l", ("either", (("n", "0", ("bits", "")), ("c", "1", ("row", (("width", 1), ("ref", "l"))))))),))
        thing = ("n", ())
        word = "0"
        for k in range(90):
            thing, word = ("c", (k % 2, thing)), f"1{k % 2}" + word
        self.has(list_, [(thing, word)])
        through = ("a", (("a", ("counted", ("width", 2), ("times", 2, ("ref", "a")))),))
        inner = (((), ()),)
        self.has(through, [((), "00"), (inner, "010000"), ((((), inner),), "0100010000")], [((),), (((),),)])

    def test_left_rings_without_bits(self):
        left = ("a", (("a", ("either", (("x", "", ("ref", "a")), ("y", "0", ("bits", ""))))),))
        self.has(left, [(("y", ()), "0"), (("x", ("x", ("y", ()))), "0")], [("x", ("x", ())), ("x", "y")])
        deep = ("y", ())
        for _ in range(60):
            deep = ("x", deep)
        self.has(left, [(deep, "0")])
        wrap = ("a", (("a", ("row", (("ref", "b"),))), ("b", ("either", (("e", "", ("bits", "")), ("d", "", ("ref", "a")))))))
        self.has(wrap, [((("e", ()),), ""), ((("d", (("e", ()),)),), "")], [((("d", ()),),)])

    def test_any_value(self):
        for sheet in (TREE, BOX, CODES, EVEN):
            words = oracle.words(sheet, 6)
            things = [thing for thing in words if type(thing) in (int, str, tuple)]
            none = [value for value in ANY_VALUES if not any(type(value) is type(t) and value == t for t in things)]
            self.has(sheet, [], none)
        self.has(one(("times", 1, ("bits", ""))), [(((),), "")], ANY_VALUES[:12])

    def test_against_all_words(self):
        for clean in (True, False):
            for sheet in oracle.sample_sheets(5, 120, clean=clean):
                words = oracle.tables(sheet, 5, 5)
                for name in words:
                    for thing, word in list(words[name].items())[:60]:
                        self.assertEqual(word_of(rooted(sheet, name), thing), word)
                every = {thing for found in words.values() for thing in found}
                complete = oracle.tables(sheet, 5, 6) == words and "until" not in repr(sheet)
                for thing in sorted(every, key=repr)[:60]:
                    if complete and thing not in words[sheet[0]] and is_thing(sheet, thing):
                        self.assertGreater(len(word_of(sheet, thing)), 5)

    def test_has_empty(self):
        empty = ("bits", "")
        for term, answer in [
            (empty, True), (("bits", "0"), False), (("table", (("a", "0"), ("b", ""))), True), (("table", ()), False), (("width", 0), True),
            (("width", 1), False), (("row", ()), True), (("row", (empty, ("bits", "1"))), False), (("either", (("a", "", empty),)), True),
            (("either", (("a", "0", empty),)), False), (("either", ()), False), (("times", 0, ("bits", "1")), True),
            (("times", 2, empty), True), (("times", 2, ("bits", "1")), False), (("counted", ("width", 0), ("bits", "1")), True),
            (("counted", ("table", ((2, ""),)), ("bits", "1")), False), (("counted", ("table", ((2, ""),)), empty), True),
            (("counted", ("table", ((-2, ""),)), empty), False), (("counted", ("table", (("a", ""),)), empty), False),
            (("counted", ("table", ((0, "0"), (1, ""))), empty), True), (("counted", ("width", 1), empty), False),
            (("until", "1", empty), False), (("sized", ("width", 0), empty), True), (("sized", ("width", 0), ("bits", "1")), False),
            (("sized", ("table", ((1, ""),)), empty), False), (("sized", ("table", ((1, ""), (0, "1"))), empty), False),
            (("checked", ((0, 0, "1"),), empty), False), (("counted", ("sized", ("width", 0), ("width", 0)), ("bits", "1")), True),
            (("ref", "t"), False), (("either", (("a", "", ("ref", "t")), ("b", "", empty))), True), (("row", (("ref", "t"),)), False),
        ]:
            self.assertIs(has_empty(one(term)), answer, term)
        for sheet in oracle.sample_sheets(6, 300, clean=False):
            self.assertEqual(has_empty(sheet), "" in oracle.words(sheet, 0, 6).values(), sheet)

    def test_layout(self):
        self.assertEqual(layout(("c", (("c", ("counted", ("width", 2), ("width", 1))),)), (1, 0)), [
            ("c", (), (1, 0), 0, 4), ("c", (0,), 2, 0, 2), ("c", (1,), 1, 2, 3), ("c", (1,), 0, 3, 4)])
        self.assertEqual(layout(BOX, ("leaf", 2)), [
            ("p", (), ("leaf", 2), 0, 6), ("p", (0,), 3, 0, 3), ("p", (1,), ("leaf", 2), 3, 6), ("tree", (), ("leaf", 2), 3, 6),
            ("tree", (0,), 2, 4, 6)])
        nested_numbers = ("a", (("a", ("sized", ("ref", "n"), ("until", "1", ("checked", ((0, 0, "1"),), ("width", 1))))),
                                ("n", ("sized", ("width", 2), ("width", 3)))))
        self.assertEqual(layout(nested_numbers, (1, 0)), [
            ("a", (), (1, 0), 0, 10), ("a", (0,), 5, 0, 5), ("n", (), 5, 0, 5), ("n", (0,), 3, 0, 2), ("n", (1,), 5, 2, 5),
            ("a", (1,), (1, 0), 5, 10), ("a", (1, 0), 1, 5, 7), ("a", (1, 0, 0), 1, 5, 6), ("a", (1, 0), 0, 7, 9), ("a", (1, 0, 0), 0, 7, 8)])
        first = layout(TREE, ("leaf", 1))
        self.assertEqual(first, layout(sheet=TREE, thing=("leaf", 1)))
        self.assertIsNot(first, layout(TREE, ("leaf", 1)))

    def test_layouts_hang_together(self):
        for sheet in oracle.sample_sheets(7, 150, clean=False):
            for thing, word in list(oracle.words(sheet, 6, 4).items())[:20]:
                rows = layout(sheet, thing)
                self.assertEqual(joined_parts(sheet, rows, 0), (word, len(rows)))
                for name, path, part, start, end in rows:
                    under = word_of(("zz", sheet[1] + (("zz", oracle.at_place(sheet, (name, path))),)), part)
                    self.assertEqual(under, word[start:end])

    def test_errors_in_order(self):
        for value in ANY_VALUES:
            for call in (is_thing, word_of, layout):
                with self.assertRaises(InvalidSheet):
                    call(value, value)
            with self.assertRaises(InvalidSheet):
                has_empty(value)
        with self.assertRaises(InvalidThing):
            word_of(sheet=TREE, thing=nested(139))


if __name__ == "__main__":
    unittest.main()
