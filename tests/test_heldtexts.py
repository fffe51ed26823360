"""[66]: value texts of held states, there and back."""

import unittest

from tests.examples import ANY_VALUES, BOX, TREE, nested
from tests.plaincodes import EXAMPLE, PARITY
from tests.test_feeding import UNSOUND, held_behind, sound_codes
from termsonwires.codes import code_of
from termsonwires.errors import InvalidCode, InvalidHeld, InvalidText, UnsoundCode
from termsonwires.feeding import begun, feed
from termsonwires.heldtexts import held_of, held_text


def plain_text(value):
    if type(value) is tuple:
        return "(" + "".join(plain_text(part) + "," for part in value) + ")"
    return "'" + value + "'" if type(value) is str else str(value)


class HeldTextTest(unittest.TestCase):
    def test_there_and_back(self):
        """K11."""
        chance, codes = sound_codes(80, 100)
        for code in codes + [code_of(TREE), code_of(BOX)]:
            for bits in ("", "1", "01", "10", "110", "1110"):
                held = held_behind(code, bits)
                if held is not None:
                    text = held_text(code, held)
                    self.assertEqual(text, plain_text(held))
                    self.assertEqual(held_of(code, text), held)
                    self.assertEqual(feed(code, held_of(code, text), "0101"), feed(code, held, "0101"))

    def test_long_texts_and_deep_tuples(self):
        code = (("one", (("0" * 86, (("put", 0),)), ("1", (("tuple", (("call", 0),)),)))),)
        held = held_behind(code, "0" * 85)
        self.assertEqual(held_of(code, held_text(code, held)), held)
        deep = (((("whole",), (), ()), (("tuple",), (nested(195),), ())), ("rule", 0, ""))
        self.assertEqual(held_of(code, held_text(code, deep)), deep)
        start = "(((('whole',),(),(),),(('tuple',),("
        with self.assertRaises(InvalidText) as caught:
            held_of(code, start + "(" * 197 + ")" * 3)
        self.assertEqual(caught.exception.index, len(start) + 196)

    def test_wrong_texts(self):
        good = "(((('whole',),(),(),),),('rule',0,'',),)"
        self.assertEqual(held_text(EXAMPLE, begun(EXAMPLE)[1]), good)
        for text, index in (("", 0), (good[:-1], len(good) - 1), (good + " ", len(good)), (good[:5] + "W%", 6), ("((((whole", 4), ("(1 ,)", 2), ("(01,)", 2), ("('" + "0" * 86, 87), ("-", 1), ("(" * 201, 200), ("1" * 41, 40)):
            with self.assertRaises(InvalidText) as caught:
                held_of(EXAMPLE, text)
            self.assertEqual(caught.exception.index, index, text)
        for text in ("0", "()", "'" + "0" * 85 + "'", good.replace("rule", "role"), good.replace("whole", "tuple"), good.replace("0", "2")):
            with self.assertRaises(InvalidHeld):
                held_of(EXAMPLE, text)

    def test_errors_in_their_order(self):
        for bad in ANY_VALUES:
            for call in (held_text, held_of):
                with self.assertRaises(InvalidCode):
                    call(bad, bad)
                with self.assertRaises(UnsoundCode):
                    call(UNSOUND, bad)
            with self.assertRaises(InvalidHeld):
                held_text(EXAMPLE, bad)
            if type(bad) is not str:
                with self.assertRaises(InvalidText) as caught:
                    held_of(EXAMPLE, bad)
                self.assertEqual(caught.exception.index, 0)

    def test_other_codes(self):
        """A held state of one code needs not fit another one."""
        held = held_behind(EXAMPLE, "1")
        with self.assertRaises(InvalidHeld):
            held_of((("one", (("0", (("put", 0),)),)),), held_text(EXAMPLE, held))


if __name__ == "__main__":
    unittest.main()
