"""[43] to [45]: two acceptors, against their lists of words."""

import unittest
from fractions import Fraction

from tests import oracle
from tests.examples import ANY_VALUES
from tests.plainrows import flat_sheets, lead, one, plainly_least, some_acceptors, words_of
from termsonwires.acceptors import acceptor_of, behind, bulk, is_full, shares
from termsonwires.errors import InvalidAcceptor, Unfit
from termsonwires.gaps import apart, gap
from termsonwires.versions import collision, common, joined, room, unread

NONE = [(0, 0, "dead")]
EMPTY = [(1, 1, "whole"), (1, 1, "dead")]
UNTIL = [(1, 2, "open"), (0, 0, "open"), (3, 3, "whole"), (3, 3, "dead")]
TWO = [(1, 2, "open"), (3, 3, "whole"), (1, 3, "open"), (3, 3, "dead")]
ROOM_OF_TWO = [(1, 2, "open"), (1, 1, "dead"), (1, 3, "open"), (1, 1, "whole")]


def first(words):
    return oracle.by_length(words)[0] if words else None


def kind(rows, bits):
    return rows[lead(rows, 0, bits)][2]


class VersionsTest(unittest.TestCase):
    @classmethod
    def setUpClass(cls):
        cls.chance, found = some_acceptors(120, 40, 4)
        _, sheets = flat_sheets(121, 120, 3)
        found += [acceptor_of(sheet) for sheet in sheets if bulk(sheet) <= 20]
        cls.found = found
        cls.pairs = [(cls.chance.choice(found), cls.chance.choice(found)) for _ in range(350)]
        cls.pairs += [(rows, rows) for rows in found[:10]] + [(a, b) for a in found[:2] for b in found[:6]] + [(b, a) for a in found[:2] for b in found[:6]]

    def test_unread(self):
        for rows, other in self.pairs:
            told = unread(rows, other)
            self.assertIs(told is None, common(rows, other) == rows)
            words, read = words_of(rows, 9), set(words_of(other, 9))
            expected = first([word for word in words if word not in read])
            if told is None or len(told) <= 9:
                self.assertEqual(told, expected, (rows, other))
            else:
                self.assertIsNone(expected)
            if told is not None:
                self.assertLess(len(told), len(rows) * len(other))
                self.assertEqual([kind(rows, told), kind(other, told) == "whole"], ["whole", False])

    def test_common(self):
        for rows, other in self.pairs:
            told = common(rows, other)
            self.assertTrue(plainly_least(told), (rows, other))
            self.assertEqual(words_of(told, 8), sorted(set(words_of(rows, 8)) & set(words_of(other, 8)), key=lambda word: (len(word), word)))
            self.assertEqual(common(other, rows), told)

    def test_collision(self):
        for rows, other in self.pairs:
            told = collision(rows, other)
            bits = oracle.all_bits(8)
            hits = [some for some in bits if {kind(rows, some), kind(other, some)} in ({"whole"}, {"whole", "open"})]
            if hits:
                least = first(hits)
                expected = []
                for side in (rows, other):
                    if kind(side, least) == "whole":
                        expected.append(least)
                    else:
                        expected.append(least + first(words_of(behind(side, least), len(side))))
                self.assertEqual(told, tuple(expected), (rows, other))
                self.assertEqual([kind(rows, told[0]), kind(other, told[1])], ["whole", "whole"])
                self.assertTrue(told[0].startswith(told[1]) or told[1].startswith(told[0]))
            else:
                self.assertTrue(told is None or min(map(len, told)) > 8)
                pairs = [(a, b) for a in words_of(rows, 7) for b in words_of(other, 7) if a.startswith(b) or b.startswith(a)]
                self.assertEqual(pairs, [])

    def test_collision_by_name(self):
        self.assertEqual([collision(TWO, TWO), collision(EMPTY, EMPTY), collision(EMPTY, TWO), collision(TWO, EMPTY)],
                         [("0", "0"), ("", ""), ("", "0"), ("0", "")])
        self.assertEqual([collision(NONE, EMPTY), collision(NONE, NONE), collision(TWO, NONE), collision(TWO, ROOM_OF_TWO)], [None] * 4)
        self.assertEqual([collision(UNTIL, TWO), collision(TWO, UNTIL)], [("001", "0"), ("0", "001")])
        zero, longer = acceptor_of(one(("bits", "00"))), acceptor_of(one(("table", ((1, "0011"), (2, "0000")))))
        self.assertEqual([collision(zero, longer), collision(longer, zero)], [("00", "0000"), ("0000", "00")])

    def test_joined(self):
        joins = 0
        for rows, other in self.pairs + [(rows, room(rows)) for rows in self.found]:
            if collision(rows, other) is not None:
                with self.assertRaises(Unfit):
                    joined(rows, other)
                continue
            joins += 1
            told = joined(rows, other)
            self.assertTrue(plainly_least(told), (rows, other))
            self.assertEqual(words_of(told, 8), oracle.by_length(words_of(rows, 8) + words_of(other, 8)))
            share = Fraction(*shares(rows)[0]) + Fraction(*shares(other)[0])
            self.assertEqual(Fraction(*shares(told)[0]), share)
            gaps = [number for number in (gap(rows), gap(other), apart(rows, other)) if number is not None]
            self.assertEqual(gap(told), min(gaps, default=None))
        self.assertGreater(joins, 60)

    def test_shares_above_one_collide(self):
        for rows, other in self.pairs:
            if Fraction(*shares(rows)[0]) + Fraction(*shares(other)[0]) > 1:
                self.assertIsNotNone(collision(rows, other))

    def test_room(self):
        self.assertEqual([room(TWO), room(NONE), room(EMPTY), room(UNTIL)], [ROOM_OF_TWO, EMPTY, NONE, NONE])
        self.assertEqual(words_of(ROOM_OF_TWO, 5), ["11"])
        for rows in self.found:
            told = room(rows)
            self.assertTrue(plainly_least(told), rows)
            expected = [bits for bits in oracle.all_bits(7) if kind(rows, bits) == "dead"
                        and all(kind(rows, bits[:k]) == "open" for k in range(len(bits)))]
            self.assertEqual(words_of(told, 7), oracle.by_length(expected))
            self.assertIsNone(collision(rows, told))
            self.assertIs(is_full(joined(rows, told)), True)
            self.assertEqual(Fraction(*shares(rows)[0]) + Fraction(*shares(told)[0]), 1)
            twice = room(told)
            self.assertEqual(room(twice), told)
            full = [bits for bits in oracle.all_bits(6) if is_full(behind(rows, bits)) and not any(is_full(behind(rows, bits[:k])) for k in range(len(bits)))]
            self.assertEqual(words_of(twice, 6), oracle.by_length(full))
        for rows, other in self.pairs:
            if collision(rows, other) is None:
                rooms = words_of(room(rows), 7)
                self.assertTrue(all(any(word.startswith(some) for some in rooms) for word in words_of(other, 7)))

    def test_products_of_six_hundred(self):
        loops = [acceptor_of(one(("until", "1", ("bits", "0" * many)))) for many in (22, 23)]
        self.assertEqual([len(rows) for rows in loops], [24, 25])
        both = common(*loops)
        self.assertEqual(collision(*loops), ("1", "1"))
        self.assertEqual(unread(loops[0], loops[1]), "0" * 22 + "1")
        self.assertEqual(kind(both, "0" * (22 * 23) + "1"), "whole")
        self.assertEqual(len(both), 22 * 23 + 2)
        ends = acceptor_of(one(("until", "10", ("bits", "0" * 23))))
        starts = acceptor_of(one(("row", (("bits", "111"), ("until", "1", ("bits", "0" * 20))))))
        self.assertIsNone(collision(starts, ends))
        self.assertEqual(len(joined(starts, ends)), 49)

    def test_errors(self):
        for value in ANY_VALUES + [tuple(UNTIL), UNTIL[::-1], [(0, 0, "open")], [(1, 1, "whole")]]:
            for call in (unread, common, collision, joined):
                with self.assertRaises(InvalidAcceptor):
                    call(acceptor=value, other_acceptor=TWO)
                with self.assertRaises(InvalidAcceptor):
                    call(acceptor=TWO, other_acceptor=value)
            with self.assertRaises(InvalidAcceptor):
                room(acceptor=value)


if __name__ == "__main__":
    unittest.main()
