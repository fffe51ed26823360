"""[35]: words that fill holes and nearest words, against the list of all words."""

import itertools
import random
import unittest

from tests import oracle
from tests.examples import ANY_VALUES, SubStr
from tests.plainrows import one, some_acceptors, words_of
from termsonwires.acceptors import acceptor_of
from termsonwires.errors import InvalidAcceptor, InvalidBits, InvalidHoled
from termsonwires.gaps import gap
from termsonwires.mending import fill, fill_count, mend

NONE = [(0, 0, "dead")]
EMPTY = [(1, 1, "whole"), (1, 1, "dead")]
UNTIL = [(1, 2, "open"), (0, 0, "open"), (3, 3, "whole"), (3, 3, "dead")]
EVEN = acceptor_of(one(("checked", ((0, 1, "0"), (1, 0, "1")), ("width", 2))))


def distance(word, other):
    return sum(a != b for a, b in zip(word, other))


def fills(word, holed):
    return len(word) == len(holed) and all(b == "?" or a == b for a, b in zip(word, holed))


class MendingTest(unittest.TestCase):
    def test_examples(self):
        self.assertEqual([fill(EVEN, "0?1"), fill_count(EVEN, "0??"), mend(EVEN, "111")], ["011", 2, ("011", 1)])

    def test_against_all_words(self):
        chance, found = some_acceptors(90, 60, 6)
        for rows in found:
            words = words_of(rows, 8)
            for _ in range(25):
                holed = "".join(chance.choice("01???") for _ in range(chance.randint(0, 8)))
                if chance.random() < 0.5 and words:
                    holed = "".join(chance.choice([sign, sign, "?"]) for sign in chance.choice(words))
                fitting = [word for word in words if fills(word, holed)]
                self.assertEqual(fill(rows, holed), min(fitting, default=None), (rows, holed))
                self.assertEqual(fill_count(rows, holed), len(fitting))
                bits = holed.replace("?", chance.choice("01"))
                near = min([(distance(word, bits), word) for word in words if len(word) == len(bits)], default=None)
                self.assertEqual(mend(rows, bits), None if near is None else (near[1], near[0]), (rows, bits))

    def test_within_the_gap(self):
        hamming = ((0, 3, "000"), (2, 1, "001"), (4, 7, "010"), (6, 5, "011"), (3, 0, "100"), (1, 2, "101"), (7, 4, "110"), (5, 6, "111"))
        rows = acceptor_of(one(("checked", hamming, ("width", 4))))
        self.assertEqual(gap(rows), 3)
        words = words_of(rows, 7)
        self.assertEqual(len(words), 16)
        for word in words:
            for i in range(7):
                self.assertEqual(mend(rows, word[:i] + "10"[int(word[i])] + word[i + 1:]), (word, 1))
                for j in range(i):
                    holed = word[:j] + "?" + word[j + 1:i] + "?" + word[i + 1:]
                    self.assertEqual([fill(rows, holed), fill_count(rows, holed)], [word, 1])
        three = ["".join("?" if i in holes else sign for i, sign in enumerate(words[0])) for holes in itertools.combinations(range(7), 3)]
        self.assertEqual(max(fill_count(rows, holed) for holed in three), 2)

    def test_long_tapes(self):
        chance = random.Random(91)
        self.assertEqual(fill_count(UNTIL, "?" * 399), 2 ** 199)
        self.assertEqual([fill_count(UNTIL, "?" * 400), fill(UNTIL, "?" * 400), mend(UNTIL, "1" * 400)], [0, None, None])
        self.assertEqual(fill(UNTIL, "?" * 399), "0" * 398 + "1")
        self.assertEqual(mend(UNTIL, "1" * 399), ("01" * 199 + "1", 199))
        wide = acceptor_of(one(("until", "0000", ("table", tuple((k, "1" + format(k, "03b")) for k in range(8))))))
        word = "".join("1" + oracle.random_bits(chance, 3, 3) for _ in range(99)) + "0000"
        holed = "".join("?" if chance.random() < 0.3 else sign for sign in word)
        found = fill(wide, holed)
        self.assertTrue(fills(found, holed) and found <= word)
        items = holed[:-4]
        free = sum(sign == "?" for k, sign in enumerate(items) if k & 3)
        self.assertEqual(fill_count(wide, holed[:-4] + "0000"), 2 ** free)
        self.assertEqual(mend(wide, word), (word, 0))
        dirty = word[:200] + "0" + word[201:] if word[200] == "1" else word
        self.assertEqual(mend(wide, dirty), (word, 1))

    def test_least_of_the_nearest(self):
        rows = acceptor_of(one(("table", (("a", "0011"), ("b", "0101"), ("c", "1001"), ("d", "1111")))))
        self.assertEqual([mend(rows, "0001"), mend(rows, "0111"), mend(rows, "1000"), mend(rows, "1110"), mend(rows, "")], [("0011", 1), ("0011", 1), ("1001", 1), ("1111", 1), None])

    def test_smallest_acceptors(self):
        self.assertEqual([fill(EMPTY, ""), fill_count(EMPTY, ""), mend(EMPTY, "")], ["", 1, ("", 0)])
        self.assertEqual([fill(EMPTY, "?"), fill_count(EMPTY, "?"), mend(EMPTY, "0")], [None, 0, None])
        self.assertEqual([fill(NONE, ""), fill_count(NONE, ""), mend(NONE, ""), fill(NONE, "?")], [None, 0, None, None])
        self.assertEqual([fill(UNTIL, ""), fill_count(UNTIL, ""), mend(UNTIL, "")], [None, 0, None])

    def test_errors(self):
        for value in ANY_VALUES + [tuple(UNTIL), UNTIL[::-1]]:
            for call in (fill, fill_count, mend):
                with self.assertRaises(InvalidAcceptor):
                    call(value, None)
        for value in ANY_VALUES + ["01 ", "0?2", "?a?", SubStr("01?"), ["0", "1"]]:
            if type(value) is str and set(value) <= set("01?"):
                continue
            for call in (fill, fill_count):
                with self.assertRaises(InvalidHoled):
                    call(acceptor=UNTIL, holed=value)
            with self.assertRaises(InvalidBits):
                mend(acceptor=UNTIL, bits=value)
        with self.assertRaises(InvalidBits):
            mend(UNTIL, "0?1")


if __name__ == "__main__":
    unittest.main()
