"""[11] to [13]: texts of plain things and sheets, there and back, and where texts are refused."""

import unittest

from tests import oracle
from tests.test_forms import WRAPS, deep
from tests.examples import ANY_VALUES, BOX, TREE, SubStr, nested, nested_list
from termsonwires.errors import InvalidSheet, InvalidText, InvalidThing
from termsonwires.changes import lifted, unrolled
from termsonwires.texts import sheet_of, sheet_text, thing_of, thing_text

KINDS = """root a
a = ("01", ['x' "0", -12 "", 0 "11"], width 8, (), {}, [])
b = {'' "" times 3 @a, 'p q' "01" counted width 2 until "110" "0"}
c_1 = sized ['' "1"] checked [0 1 "01", 1 0 "10"] @b
"""


class TextsTest(unittest.TestCase):
    def refused(self, call, text, index):
        with self.assertRaises(InvalidText, msg=repr(text)) as caught:
            call(text)
        self.assertEqual(caught.exception.index, index, repr(text))

    def test_things_there_and_back(self):
        for thing, text in [
            (0, "0"), (-7, "-7"), (10 ** 40 - 1, "9" * 40), (1 - 10 ** 40, "-" + "9" * 40), ("", "''"), ("a b~\"", "'a b~\"'"),
            ((), "()"), ((1,), "(1,)"), (("1", 1, ()), "('1',1,(),)"), ((((), ()),), "(((),(),),)"), ("a" * 12, f"'{'a' * 12}'"),
        ]:
            self.assertEqual(thing_text(thing), text)
            self.assertEqual(repr(thing_of(text)), repr(thing))
        for depth in (1, 129, 130):
            thing = nested(depth - 1)
            self.assertEqual(thing_of(thing_text(plain=thing)), thing)
            self.assertEqual(thing_text(thing), "(" * depth + ")" + ",)" * (depth - 1))

    def test_no_plain_things(self):
        for value in [True, None, [], [1], (1, [2]), 10 ** 40, -(10 ** 40), "a" * 13, "'", "\n", chr(37), "\\", nested(130),
                      nested_list(3), (None,), SubStr("a"), ((True,),), {}, nested(131, 1), (nested(129), 1), b"a"]:
            with self.assertRaises(InvalidThing, msg=repr(value)[:50]):
                thing_text(value)

    def test_wrong_thing_texts(self):
        for text, index in [
            ("", 0), (" ", 0), ("-", 1), ("-0", 1), ("01", 1), ("00", 1), ("1a", 1), ("12 ", 2), ("+1", 0), ("a", 0), ("(1,2)", 4),
            ("(", 1), ("(,", 1), ("(1", 2), ("(1)", 2), ("(1,,", 3), ("(1, 2,)", 3), ("())", 2), ("'a", 2), ("'a''", 3), ("''1", 2),
            ("'" + "a" * 13 + "'", 13), ("1" * 41, 40), ("-" + "1" * 41, 41), ("'\n'", 1), ("'" + chr(37), 1), ("'\\'", 1),
            ("(1,2,", 5), ("(()", 3), ("((),)x", 5), ("1\n", 1), ("\u0661", 0), ("1\u0661", 1), ("'\u00e9'", 1), ("--1", 1),
            ("(" * 131, 130), ("(" * 130 + "1", 131), ("(" * 130 + ")" + ",)" * 129 + ",", 390 - 1), ("True", 0), ("((1,)'", 5),
        ]:
            self.refused(thing_of, text, index)
        for value in ANY_VALUES:
            if not isinstance(value, str) or isinstance(value, SubStr):
                self.refused(thing_of, value, 0)
                self.refused(sheet_of, value, 0)

    def viable_things(self, text):
        """The greatest beginning that some plain thing's text begins with, tried by endings."""
        best = 0
        for index in range(len(text) + 1):
            start = text[:index]
            deep = start.count("(")
            tails = [tail + ",)" * k for k in range(deep + 1) for tail in ("", "0", "'", "1", ")", ",)", "0,)", "',)", "1,)")]
            for tail in tails:
                try:
                    thing_text(thing_of(start + tail))
                except InvalidText:
                    continue
                best = index
                break
        return best

    def test_changed_thing_texts(self):
        base = "((-10,'a b',(),),0,'',)"
        signs = "01-'(),a "
        texts = [base[:k] for k in range(len(base) + 1)]
        texts += [base[:k] + sign + base[k + 1:] for k in range(len(base)) for sign in signs]
        texts += [base[:k] + sign + base[k:] for k in range(len(base) + 1) for sign in signs]
        texts += [base[:k] + base[k + 1:] for k in range(len(base))]
        for text in texts:
            try:
                self.assertEqual(thing_text(thing_of(text)), text)
            except InvalidText as error:
                self.assertEqual(error.index, self.viable_things(text), text)

    def test_sheets_there_and_back(self):
        for sheet in [TREE, BOX, unrolled(TREE, 2), sheet_of(KINDS)]:
            self.assertEqual(sheet_of(sheet_text(sheet)), sheet)
        self.assertEqual(sheet_text(sheet_of(KINDS)), KINDS)
        self.assertEqual(sheet_text(lifted(TREE, ("tree", (1,)), "pair")),
                         'root tree\npair = (@tree, @tree)\ntree = {\'leaf\' "0" width 2, \'node\' "1" @pair}\n')
        for clean in (True, False):
            for sheet in oracle.sample_sheets(4, 150, clean=clean, depth=5):
                text = sheet_text(sheet)
                self.assertEqual(repr(sheet_of(text=text)), repr(sheet))
        for value in ANY_VALUES:
            with self.assertRaises(InvalidSheet):
                sheet_text(value)

    def test_loose_but_no_sheets(self):
        for rows in [
            "a = @b", "b = @b", 'a = ["1" "0", \'x\' "0"]'.replace('["1" "0", ', "[1 \"\", 1 \"0\", "), "a = (width 1)\na = (width 1)",
            "b = ()\na = ()", "a = {'x' \"\" (), 'x' \"1\" ()}", "a = checked [7 0 \"1\"] ()", 'a = checked [0 0 "1", 0 0 "11"] ()',
            "a = checked [1 0 \"1\"] ()", "a = (@a, @b)",
        ]:
            with self.assertRaises(InvalidSheet, msg=rows):
                sheet_of(f"root a\n{rows}\n")

    def test_wrong_sheet_texts(self):
        head = "root a\na = "
        for rest, index in [
            ("", 0), ("\n", 0), ("width", 5), ("width 9\n", 6), ("width 08\n", 7), ("width  8", 6), ("wide", 3), ("x", 0), ("()", 2), ("() ", 2),
            ("() \n", 2), ("( )", 1), ("((),())", 4), ("((), )", 5), ("((),  ())", 5), ("(()", 3), ("[]\n\n", 3), ("[]\nA", 3), ("[]\nb=", 4),
            ("[]\nb =\n", 6), ("times 9 ()", 6), ("times 0()", 7), ("times", 5), ("times -1", 6), ("times 10", 7), ("counted () ", 11),
            ("counted ()\n", 10), ("checked ()", 8), ("checked []", 9), ('checked [8 0 "1"] ()', 9), ('checked [0 0 ""] ()', 14),
            ('checked [0 0 "00000"] ()', 18), ('checked [0 8 "0"]', 11), ('checked [0,0 "0"]', 10), ('checked [0 0 "0"]()', 17), ("cx", 1),
            ("until () ()", 6), ('until "" ()', 7), ('until "0000000"', 13), ('until "1"()', 9), ("untill", 5), ("sized ", 6), ("size ", 4), ("sixed", 2),
            ("@", 1), ("@A", 1), ("@1", 1), ("@abcdefghijklm\n", 13), ("@a b", 2), ('"2"', 1), ('"' + "0" * 401 + '"', 401), ('"01', 3), ('"01"0', 4),
            ("[1]", 2), ('[1 "0",2 "1"]', 7), ("[1 2]", 3), ('[\'a\'"0"]', 4), ('[1 "0", ]', 8), ('[01 "0"]', 2), ('[-0 "0"]', 2), ('["0"]', 1),
            ("[" + "1" * 41, 41), ("['" + "a" * 13, 14), ("{1 \"\" ()}", 1), ("{'a' \"\"}", 7), ("{'a' \"\" }", 8), ("{'a' \"\" (),", 11), ("{'a'  ", 5),
            ("{'a' \"0\" ()]", 11), ("(]", 1), ("{'aaaaaaaaaaaaa'", 14), ("width 8,", 7), ("@a\nabcdefghijklm = ", 15), ("'a'", 0),
        ]:
            self.refused(sheet_of, head + rest, len(head) + index)
        for text, index in [("", 0), ("roo", 3), ("root", 4), ("root a", 6), ("root a\n", 7), ("root  a", 5), ("root A", 5), ("Root", 0),
                            ("root a\n\n", 7), ("root a\na", 8), ("root abcdefghijklm", 17), (" root", 0), ("root a\r\n", 6)]:
            self.refused(sheet_of, text, index)

    def test_nine_rows_of_a_machine(self):
        row = '0 0 "1"'
        text = f"root a\na = checked [{', '.join([row] * 8)}] ()\n"
        self.assertEqual(len(sheet_of(text)[1][0][1][1]), 8)
        text = f"root a\na = checked [{', '.join([row] * 9)}] ()\n"
        self.refused(sheet_of, text, text.index("]") - len(row) - 2)

    def test_depth_counts(self):
        head = "root a\na = " + "(" * 11
        for inner in ['"1"', "[1 \"\"]", "width 3", "@a", "()", "{}", "[]"]:
            self.assertEqual(sheet_text(sheet_of(head + inner + ")" * 11 + "\n")), head + inner + ")" * 11 + "\n")
        for inner in ["times 1 ()", "counted", "until", "sized", "checked", "t", "c", "x"]:
            self.refused(sheet_of, head + inner, len(head))
        for inner in ["(()", "('", '{\'', "({", "(\""]:
            self.refused(sheet_of, head + inner, len(head) + 1)
        deep = "root a\na = " + 'counted () until "1" sized () checked [0 0 "1"] times 2 {\'x\' "" ' + "(" * 5
        self.refused(sheet_of, deep + "t", len(deep))
        self.refused(sheet_of, deep + "((", len(deep) + 1)
        self.refused(sheet_of, deep + "(,", len(deep) + 1)

    def test_depth_through_each_kind_of_part(self):
        head = "root a\na = "
        for wrap in WRAPS:
            text = sheet_text(("a", (("a", deep(12, wrap)),)))
            self.assertEqual(sheet_of(text), ("a", (("a", deep(12, wrap)),)))
            ahead = sheet_text(("a", (("a", wrap(("ref", "a"))),)))[len(head):].split("@")[0]
            behind = sheet_text(("a", (("a", wrap(("ref", "a"))),)))[len(head):-1].split("@a")[1]
            too_deep = head + ahead * 12 + "()" + behind * 12 + "\n"
            self.refused(sheet_of, too_deep, len(head) + 11 * len(ahead) + (1 if ahead[0] in "({" else 0))

    def test_changed_sheet_texts(self):
        """Each refused text is refused at an index from which on no other sign would do, and is right up to it."""
        signs = "\n \"'(),-0129=@[]{}_abcdefghijklmnopqrstuvwxyz"
        chance_texts = [KINDS, sheet_text(BOX)]
        for base in chance_texts:
            for k in range(len(base)):
                for text in (base[:k], base[:k] + base[k + 1:], base[:k] + base[k] + base[k:], base[:k] + "0" + base[k + 1:],
                             base[:k] + "(" + base[k:], base[:k] + "'" + base[k + 1:], base[:k] + "," + base[k:]):
                    index = self.index_of(text)
                    if index is None:
                        continue
                    self.assertLessEqual(index, len(text))
                    self.assertGreaterEqual(index, min(k, len(text)))
                    if index < len(text):
                        goes_on = [sign for sign in signs if self.gets_past(text[:index] + sign, index)]
                        self.assertTrue(goes_on, text)
                        self.assertNotIn(text[index], goes_on)

    def index_of(self, text):
        try:
            sheet_of(text)
        except InvalidText as error:
            return error.index
        except InvalidSheet:
            return None
        return None

    def gets_past(self, text, index):
        found = self.index_of(text)
        return found is None or found > index


if __name__ == "__main__":
    unittest.main()
