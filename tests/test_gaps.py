"""[32] to [34]: gaps against all pairs of words, height tables against [33] word by word."""

import itertools
import random
import unittest

from tests import oracle
from tests.examples import ANY_VALUES, SubInt, SubList, SubTuple
from tests.plainrows import flat_sheets, one, some_acceptors, words_of
from termsonwires.acceptors import acceptor_of, bulk
from termsonwires.automata import least_acceptor
from termsonwires.errors import InvalidAcceptor, InvalidCount, InvalidTable
from termsonwires.gaps import apart, gap, gap_at, heights, is_height_table, nearest, worth

NONE = [(0, 0, "dead")]
EMPTY = [(1, 1, "whole"), (1, 1, "dead")]
UNTIL = [(1, 2, "open"), (0, 0, "open"), (3, 3, "whole"), (3, 3, "dead")]
PARITY = ((0, 1, "0"), (1, 0, "1"))
HAMMING = ((0, 3, "000"), (2, 1, "001"), (4, 7, "010"), (6, 5, "011"), (3, 0, "100"), (1, 2, "101"), (7, 4, "110"), (5, 6, "111"))


def distance(word, other):
    return sum(a != b for a, b in zip(word, other))


def pairs_of_one_length(words):
    by_length = {}
    for word in words:
        by_length.setdefault(len(word), []).append(word)
    return [pair for row in by_length.values() for pair in itertools.combinations(sorted(row), 2)]


def open_count(rows):
    return sum(kind == "open" for _, _, kind in rows)


def columns(pair):
    return [(a, b) for a, b in zip(*pair)]


class GapsTest(unittest.TestCase):
    def test_examples(self):
        self.assertEqual([gap(UNTIL), nearest(UNTIL), heights(UNTIL)], [1, ("001", "011"), [(0, 0, 0), (0, 1, None), (1, 1, 0)]])
        even = acceptor_of(one(("checked", PARITY, ("width", 2))))
        self.assertEqual(words_of(even, 5), ["000", "011", "101", "110"])
        self.assertEqual([gap(even), nearest(even)], [2, ("000", "011")])
        self.assertEqual([gap(acceptor_of(one(("checked", HAMMING, ("width", k))))) for k in (4, 5)], [3, 2])

    def test_against_all_pairs_of_words(self):
        _, found = some_acceptors(80, 150, 4)
        for rows in found:
            k = open_count(rows)
            if k > 3:
                continue
            most = k + k * (k + 1) // 2
            pairs = pairs_of_one_length(words_of(rows, most))
            distances = {pair: distance(*pair) for pair in pairs}
            least = min(distances.values(), default=None)
            self.assertEqual(gap(rows), least, rows)
            if least is None:
                self.assertIsNone(nearest(rows))
            else:
                near = [pair for pair in pairs if distances[pair] == least]
                self.assertEqual(nearest(rows), min(near, key=lambda pair: (len(pair[0]), columns(pair))), rows)
            for length in range(most + 1):
                expected = min([d for pair, d in distances.items() if len(pair[0]) == length], default=None)
                self.assertEqual(gap_at(rows, length), expected, (rows, length))

    def test_larger_ones(self):
        _, found = some_acceptors(81, 60, 10)
        for rows in found:
            k = open_count(rows)
            self.check_facts(rows, k)

    def check_facts(self, rows, k):
        table = heights(rows)
        self.assertEqual(worth(rows, table), gap(rows))
        self.assertIs(is_height_table(rows, table), True)
        words = words_of(rows, 7)
        pairs = pairs_of_one_length(words)
        for length in range(8):
            expected = min([distance(*pair) for pair in pairs if len(pair[0]) == length], default=None)
            self.assertEqual(gap_at(rows, length), expected)
        if gap(rows) is None:
            self.assertIsNone(nearest(rows))
            self.assertEqual({gap_at(rows, length) for length in range(40)}, {None})
            return
        word, other = nearest(rows)
        self.assertEqual([len(word) == len(other), word < other, distance(word, other)], [True, True, gap(rows)])
        self.assertLessEqual(len(word), k + k * (k + 1) // 2)
        self.assertTrue(all(rows_word in words or len(rows_word) > 7 for rows_word in (word, other)))
        for n in range(min(len(word), 61)):
            self.assertTrue(gap_at(rows, n) is None or gap_at(rows, n) > gap(rows))
        if len(word) <= 60:
            self.assertEqual(gap_at(rows, len(word)), gap(rows))
        flips = any(word[:i] + "10"[int(word[i])] + word[i + 1:] in words for word in words for i in range(len(word)))
        self.assertTrue(not flips or gap(rows) == 1)

    def test_sheets(self):
        _, sheets = flat_sheets(82, 200)
        for sheet in sheets:
            if bulk(sheet) <= 60:
                rows = acceptor_of(sheet)
                if len(rows) <= 24:
                    self.check_facts(rows, open_count(rows))

    def test_checks(self):
        chance = random.Random(83)
        _, sheets = flat_sheets(84, 150, 3)
        above = lambda least: 10 ** 9 if least is None else least
        for sheet in sheets:
            machine = chance.choice([PARITY, HAMMING, oracle.random_machine(chance)])
            checked = ("m", tuple(sorted(sheet[1] + (("m", ("checked", machine, ("ref", sheet[0]))),))))
            if bulk(checked) <= 200:
                inner, outer = gap(acceptor_of(sheet)), gap(acceptor_of(checked))
                self.assertGreaterEqual(above(outer), above(inner))
                if machine == PARITY and outer is not None:
                    self.assertEqual(outer & 1, 0)

    def test_no_gap(self):
        comma = acceptor_of(one(("table", (("a", "0"), ("b", "10"), ("c", "110")))))
        for rows in (NONE, EMPTY, comma, acceptor_of(one(("until", "1", ("bits", "0"))))):
            self.assertEqual([gap(rows), nearest(rows), gap_at(rows, 3), worth(rows, heights(rows))], [None] * 4)
        self.assertEqual([heights(NONE), heights(EMPTY)], [[], []])
        self.assertEqual([is_height_table(NONE, []), worth(EMPTY, [])], [True, None])
        self.assertEqual([gap_at(NONE, 0), gap_at(EMPTY, 0), gap_at(EMPTY, 60)], [None] * 3)

    def test_nearest_of_fewest_bits_then_first_columns(self):
        rows = acceptor_of(one(("table", (("a", "0011"), ("b", "0101"), ("c", "1000"), ("d", "1111"), ("e", "01000"), ("f", "01001")))))
        self.assertEqual([gap(rows), nearest(rows), gap_at(rows, 4), gap_at(rows, 5)], [1, ("01000", "01001"), 2, 1])
        wide = acceptor_of(one(("table", (("a", "110"), ("b", "100"), ("c", "001"), ("d", "000")))))
        self.assertEqual(nearest(wide), ("000", "001"))
        cross = acceptor_of(one(("table", (("a", "0011"), ("b", "1010"), ("c", "0101"), ("d", "1100")))))
        self.assertEqual(nearest(cross), ("0011", "0101"))
        columns_first = acceptor_of(one(("table", (("a", "011"), ("b", "110"), ("c", "000")))))
        self.assertEqual(nearest(columns_first), ("000", "011"))

    def test_sixty_rows(self):
        chance = random.Random(85)
        for _ in range(3):
            many, rows = 58, NONE
            while len(rows) < 40 or gap(rows) is None:
                loose = [(chance.randrange(many + 1), chance.randrange(many + 1), "open") for _ in range(many)]
                rows = least_acceptor(loose + [(many + 1, many + 1, "whole"), (many + 1, many + 1, "dead")])
            self.assertEqual(gap(rows), distance(*nearest(rows)))
            self.assertEqual(gap_at(rows, len(nearest(rows)[0])), gap(rows))
            self.assertIsNotNone(apart(rows, UNTIL))


class HeightsTest(unittest.TestCase):
    def plainly_holds(self, rows, value):
        states = [p for p in range(len(rows)) if rows[p][2] == "open"]
        told = {(p, q): h for p, q, h in value}
        if list(told) != [(p, q) for p in states for q in states if p <= q]:
            return False
        most = lambda h, other: other is None or h is not None and h <= other
        for p, q in told:
            for a, b in itertools.product((0, 1), repeat=2):
                r, s = rows[p][a], rows[q][b]
                if rows[r][2] == rows[s][2] == "open":
                    other = told[min(r, s), max(r, s)]
                    if not most(told[p, q], None if other is None else other + (a != b)):
                        return False
                if rows[r][2] == rows[s][2] == "whole" and not most(told[p, q], a != b):
                    return False
        return True

    def plain_worth(self, rows, value):
        told = {(p, q): h for p, q, h in value}
        found = []
        for zero, one_, kind in rows:
            if kind == "open" and rows[zero][2] == rows[one_][2] == "whole":
                found.append(0)
            if kind == "open" and rows[zero][2] == rows[one_][2] == "open":
                found.append(told[min(zero, one_), max(zero, one_)])
        found = [height for height in found if height is not None]
        return 1 + min(found) if found else None

    def test_bent_heights(self):
        chance, found = some_acceptors(86, 60, 5)
        for rows in found:
            table = heights(rows)
            self.assertTrue(self.plainly_holds(rows, table))
            for k, (p, q, height) in enumerate(table):
                for other in {None, 0, 1, 2, 10 ** 89, (height or 0) + 1}:
                    bent = table[:k] + [(p, q, other)] + table[k + 1:]
                    holds = self.plainly_holds(rows, bent)
                    self.assertIs(is_height_table(rows, bent), holds, (rows, bent))
                    if height is not None and (other is None or other > height):
                        self.assertFalse(holds)
                    self.check_worth(rows, bent, holds)
            for _ in range(6):
                bent = [(p, q, chance.choice([height, 0, height, None])) for p, q, height in table]
                self.check_worth(rows, bent, self.plainly_holds(rows, bent))

    def check_worth(self, rows, table, holds):
        if holds:
            told = worth(rows, table)
            self.assertEqual(told, self.plain_worth(rows, table))
            self.assertTrue(gap(rows) is None or (told is not None and told <= gap(rows)))
        else:
            with self.assertRaises(InvalidTable):
                worth(rows, table)

    def test_lowered_tables_hold(self):
        zeros = [(p, q, 0) for p, q, _ in heights(UNTIL)]
        self.assertIs(is_height_table(UNTIL, zeros), True)
        self.assertEqual([worth(UNTIL, zeros), worth(acceptor=UNTIL, table=heights(UNTIL))], [1, 1])
        even = acceptor_of(one(("checked", PARITY, ("width", 2))))
        self.assertEqual([worth(even, [(p, q, 0) for p, q, _ in heights(even)]), worth(even, heights(even))], [1, 2])

    def test_other_values(self):
        good = heights(UNTIL)
        for value in ANY_VALUES + [
            [], good[:-1], good + good[-1:], good[::-1], tuple(good), SubList(good), [list(row) for row in good], [SubTuple(good[0])] + good[1:],
            [(0, 0)] + good[1:], [(0, 0, 0, 0)] + good[1:], [(0, 0, False)] + good[1:], [(0, 0, SubInt(0))] + good[1:], [(0, 0, -1)] + good[1:],
            [(0, False, 0)] + good[1:], [(SubInt(0), 0, 0)] + good[1:], [(0, 0, "0")] + good[1:], [(0, 0, 0.0)] + good[1:], [good[0], (1, 0, None), good[2]],
            [(0, 0, -1), (0, 1, None), (1, 1, -1)], [good[0], (0, 2, None), good[2]], [good[0], (0, 1, None), (2, 2, 0)],
        ]:
            self.assertIs(is_height_table(UNTIL, value), False, repr(value)[:60])
            with self.assertRaises(InvalidTable):
                worth(UNTIL, value)


class ApartTest(unittest.TestCase):
    def test_against_all_pairs_of_words(self):
        chance, found = some_acceptors(87, 60, 3)
        for _ in range(250):
            rows, other = chance.choice(found), chance.choice(found)
            told = apart(rows, other)
            self.assertEqual(apart(other, rows), told)
            most = 9
            least = min([distance(a, b) for a in words_of(rows, most) for b in words_of(other, most) if len(a) == len(b)], default=None)
            if open_count(rows) * open_count(other) < most:
                self.assertEqual(told, least, (rows, other))
            else:
                self.assertTrue(least is None or told <= least)

    def test_plain_ones(self):
        parity = acceptor_of(one(("checked", PARITY, ("width", 2))))
        odd = acceptor_of(one(("checked", ((0, 1, "1"), (1, 0, "0")), ("width", 2))))
        self.assertEqual([apart(parity, odd), apart(parity, parity), apart(EMPTY, EMPTY), apart(NONE, parity), apart(EMPTY, parity), apart(NONE, NONE)], [1, 0, 0, None, None, None])
        zeros, ones = acceptor_of(one(("bits", "0" * 40))), acceptor_of(one(("bits", "1" * 40)))
        self.assertEqual([apart(zeros, ones), apart(zeros, acceptor_of(one(("bits", "0" * 39))))], [40, None])
        self.assertEqual(apart(acceptor=UNTIL, other_acceptor=zeros), None)
        self.assertEqual(apart(UNTIL, acceptor_of(one(("bits", "000")))), 1)

    def test_errors(self):
        for value in ANY_VALUES + [tuple(UNTIL), UNTIL[::-1], [(0, 0, "open")]]:
            for call in (gap, nearest, heights, lambda rows: gap_at(rows, None), lambda rows: is_height_table(rows, None),
                         lambda rows: worth(rows, None), lambda rows: apart(rows, None), lambda rows: apart(rows, UNTIL), lambda rows: apart(UNTIL, rows)):
                with self.assertRaises(InvalidAcceptor):
                    call(value)
            if not (type(value) is int and 0 <= value <= 60):
                with self.assertRaises(InvalidCount):
                    gap_at(acceptor=UNTIL, length=value)
        with self.assertRaises(InvalidCount):
            gap_at(UNTIL, 61)
        self.assertEqual([gap_at(UNTIL, 59), gap_at(UNTIL, 60)], [1, None])


if __name__ == "__main__":
    unittest.main()
