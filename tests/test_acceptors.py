"""[26] to [28]: bulks, and least acceptors against read, against lists of words, and against [27] word by word."""

import itertools
import random
import unittest
from fractions import Fraction

from tests import oracle
from tests.examples import ANY_VALUES, BOX, CODES, EVEN, TREE, SubInt, SubList, SubStr, SubTuple
from tests.plainrows import (
    flat_sheets, lead, least_of_words, one, plainly_least, random_rows, random_words, some_acceptors, words_of)
from termsonwires.acceptors import (
    acceptor_of, acceptor_read, behind, bulk, first_word, is_full, is_least, parted_by, shares, state_behind, teller_bulk)
from termsonwires.automata import least_acceptor
from termsonwires.changes import unrolled
from termsonwires.errors import (
    Endless, Faulty, InvalidAcceptor, InvalidBits, InvalidSheet, InvalidState, TooMany)
from termsonwires.reading import can_follow, read

FAULTY = one(("table", ((1, "0"), (2, "0"))))
RINGED_AND_FAULTY = one(("row", (("table", ((1, "0"), (2, "0"))), ("ref", "m"))))
NO = ("table", ())
NONE = [(0, 0, "dead")]
EMPTY = [(1, 1, "whole"), (1, 1, "dead")]
UNTIL = [(1, 2, "open"), (0, 0, "open"), (3, 3, "whole"), (3, 3, "dead")]
TWO = [(1, 2, "open"), (3, 3, "whole"), (1, 3, "open"), (3, 3, "dead")]
MACHINE = ((0, 1, "00"), (1, 2, "01"), (2, 0, "10"))


class BulkTest(unittest.TestCase):
    def test_each_term(self):
        table = ("table", ((0, "0"), (3, "10"), (1, "110")))
        for term, plain, telling in [
            (("bits", "0101"), 4, 4), (("bits", ""), 0, 0), (table, 6, 6), (NO, 0, 0), (("width", 0), 0, 0), (("width", 5), 5, 31),
            (("row", (("bits", "01"), ("width", 3))), 5, 9), (("row", ()), 0, 0),
            (("either", (("a", "0", ("width", 2)), ("b", "10", ("bits", "1")))), 6, 7), (("either", ()), 0, 0),
            (("times", 3, ("width", 2)), 6, 9), (("times", 0, ("width", 2)), 0, 0),
            (("counted", table, ("width", 2)), 6 + 3 * 2, 6 + 3 * 3), (("counted", ("width", 2), ("width", 2)), 8 + 3 * 2, 8 + 3 * 3),
            (("counted", NO, ("width", 2)), 0, 0), (("counted", ("table", ((0, "01"),)), ("width", 2)), 2, 2),
            (("until", "101", ("row", (("bits", "0"), ("width", 2)))), 6, 7), (("sized", table, ("width", 2)), 6 + 3 * 2, 6 + 3 * 3),
            (("sized", NO, ("width", 2)), 0, 0), (("sized", ("width", 2), NO), 8, 8),
            (("checked", MACHINE, ("width", 2)), 3 * 4, 3 * 5), (("ref", "n"), 4, 15),
            (("counted", ("checked", ((0, 0, "1"),), ("width", 1)), ("width", 2)), 4 + 2, 4 + 3),
            (("counted", ("ref", "k"), ("width", 2)), 8 + 6, 8 + 9),
            (("sized", ("sized", ("width", 2), ("width", 1)), ("width", 2)), 2 * 3 + 2, 2 * 3 + 3),
            (("checked", MACHINE, ("checked", MACHINE, ("times", 2, ("ref", "n")))), 3 * (3 * (8 + 2) + 2), 3 * (3 * (30 + 2) + 2)),
        ]:
            sheet = one(term, ("k", ("width", 2)), ("n", ("width", 4)))
            self.assertEqual([bulk(sheet), teller_bulk(sheet)], [plain, telling], term)

    def test_above_four_hundred(self):
        for many, many_more in [(400, 0), (399, 1)]:
            sheet = one(("row", (("bits", "0" * many), ("bits", "1" * many_more))))
            self.assertEqual([bulk(sheet), len(acceptor_of(sheet))], [400, 402])
        for term, number in [
            (("row", (("bits", "0" * 400), ("bits", "1"))), 401), (("times", 8, ("times", 7, ("width", 8))), 448),
            (("row", (("times", 8, ("times", 8, ("times", 8, ("width", 8)))), NO)), 4096),
        ]:
            with self.assertRaises(TooMany) as caught:
                acceptor_of(one(term))
            self.assertEqual(caught.exception.count, number)
        dear = one(("times", 5, ("times", 8, ("width", 8))))
        self.assertEqual([bulk(dear), len(acceptor_of(dear))], [320, 322])
        self.assertEqual(teller_bulk(dear), 10200)

    def test_other_entries_do_not_count(self):
        sheet = one(("width", 2), ("n", ("times", 8, ("times", 8, ("bits", "0" * 300)))))
        self.assertEqual([bulk(sheet), len(acceptor_of(sheet))], [2, 4])


class AcceptorOfTest(unittest.TestCase):
    def test_examples(self):
        until = one(("until", "1", ("table", (("x", "00"), ("y", "01")))))
        self.assertEqual([bulk(until), acceptor_of(until)], [5, UNTIL])
        self.assertEqual(shares(UNTIL), [(1, 1), (1, 1), (1, 1), (0, 1)])
        self.assertIs(is_full(UNTIL), True)
        self.assertEqual([parted_by(UNTIL, 0, 1), parted_by(UNTIL, 0, 2)], ["1", ""])
        self.assertEqual(behind(UNTIL, "0"), [(1, 1, "open"), (0, 2, "open"), (3, 3, "whole"), (3, 3, "dead")])
        self.assertEqual(acceptor_of(one(("table", (("a", "0"), ("b", "10"))))), TWO)
        self.assertEqual(shares(TWO), [(3, 4), (1, 1), (1, 2), (0, 1)])
        self.assertEqual([acceptor_read(TWO, "110"), acceptor_read(TWO, "100")], [("dead", 2), ("whole", 2)])

    def test_goes_together_with_read(self):
        chance, sheets = flat_sheets(60, 420)
        for sheet in sheets:
            try:
                rows = acceptor_of(sheet)
            except TooMany as error:
                self.assertEqual(error.count, bulk(sheet))
                self.assertGreater(error.count, 400)
                continue
            self.assertLessEqual(len(rows), bulk(sheet) + 2, sheet)
            self.assertIs(is_least(rows), True)
            if len(rows) < 40:
                self.assertTrue(plainly_least(rows), (sheet, rows))
            self.assertEqual(acceptor_of(sheet), rows)
            words = oracle.words(sheet, 8)
            self.assertEqual(sorted(words_of(rows, 8)), sorted(words.values()), sheet)
            some = set(oracle.all_bits(4))
            for word in chance.sample(sorted(words.values()), min(6, len(words))):
                some |= {word[:k] for k in range(len(word) + 1)} | {word + "01"} | {word[:k] + oracle.random_bits(chance, 1, 4) for k in range(len(word))}
            for bits in sorted(some):
                told = read(sheet, bits)
                expected = ("whole", told[2]) if told[0] == "thing" else told
                self.assertEqual(acceptor_read(rows, bits), expected, (sheet, bits))
                if told[0] == "more":
                    state = lead(rows, 0, bits)
                    self.assertEqual(can_follow(sheet, bits), [bit for bit in "01" if rows[rows[state][int(bit)]][2] != "dead"])

    def test_finite_lists_of_words(self):
        chance = random.Random(61)
        for _ in range(120):
            words = random_words(chance, 7, 6)
            rows = least_of_words(words)
            chance.shuffle(words)
            self.assertEqual(acceptor_of(one(("table", tuple(zip(range(9), words))))), rows)
            ways = tuple((label, word, ("bits", "")) for label, word in zip("abcdefgh", words))
            self.assertEqual(acceptor_of(one(("either", ways))), rows)

    def test_words_of_one_thing_told_in_several_ways(self):
        self.assertEqual(acceptor_of(one(("times", 2, ("width", 1)))), acceptor_of(one(("width", 2))))
        self.assertEqual(acceptor_of(one(("either", (("a", "0", ("width", 1)), ("b", "1", ("table", (("x", "1"), ("y", "0")))))))), acceptor_of(one(("width", 2))))
        self.assertNotEqual(acceptor_of(one(("width", 3))), acceptor_of(one(("width", 2))))
        for term in [NO, ("either", ()), ("row", (("bits", "1"), NO)), ("sized", ("width", 2), ("width", 8)), ("times", 1, NO), ("counted", NO, ("width", 1))]:
            self.assertEqual(acceptor_of(one(term)), NONE, term)
        for term in [("bits", ""), ("row", ()), ("times", 0, NO), ("width", 0), ("counted", ("table", ((0, ""),)), NO), ("sized", ("table", ((0, ""),)), ("bits", "")), ("either", (("a", "", ("bits", "")),))]:
            self.assertEqual(acceptor_of(one(term)), EMPTY, term)

    def test_refs_and_unrolled_sheets(self):
        sheet = one(("row", (("ref", "n"), ("until", "0", ("ref", "n")), ("ref", "n"))), ("n", ("table", (("a", "10"), ("b", "111")))))
        spelt = one(("row", (("table", (("a", "10"), ("b", "111"))), ("until", "0", ("table", (("a", "10"), ("b", "111")))), ("table", (("c", "111"), ("d", "10"))))))
        self.assertEqual(acceptor_of(sheet), acceptor_of(spelt))
        deep = unrolled(TREE, 5)
        self.assertEqual(bulk(deep), 252)
        rows = acceptor_of(deep)
        for bits in ["", "1", "1001010", "0111", "11110", "1" * 5 + "000", "1" * 5 + "001000", "1" * 6]:
            told = read(deep, bits)
            self.assertEqual(acceptor_read(rows, bits), ("whole", told[2]) if told[0] == "thing" else told)
        long = unrolled(("m", (("m", ("either", (("x", "0", ("bits", "")), ("y", "1", ("row", (("bits", "1"), ("ref", "m"))))))),)), 39)
        self.assertEqual([len(acceptor_of(long)), acceptor_read(acceptor_of(long), "11" * 39 + "0")], [81, ("whole", 79)])

    def test_many_copies_without_bits(self):
        entries = tuple((name, ("row", (("ref", "abcdef"[k + 1]),) * 10)) for k, name in enumerate("abcd"))
        sheet = ("a", entries + (("e", ("row", (NO, ("ref", "f")))), ("f", ("bits", ""))))
        self.assertEqual(acceptor_of(sheet), NONE)

    def test_untils_beside_their_marks(self):
        for mark, rows in [("11", (("a", "10"), ("b", "0"))), ("010", (("a", "011"), ("b", "00"), ("c", "1"))), ("000", (("a", "0010"), ("b", "01"), ("c", "1")))]:
            sheet = one(("until", mark, ("table", rows)))
            found = acceptor_of(sheet)
            self.assertTrue(plainly_least(found))
            for bits in oracle.all_bits(9):
                told = read(sheet, bits)
                self.assertEqual(acceptor_read(found, bits), ("whole", told[2]) if told[0] == "thing" else told)

    def test_large_ones(self):
        machine = tuple(((3 * k + 1) % 8, (5 * k + 2) % 8, format(k, "03b")) for k in range(8))
        sheet = one(("checked", machine, ("until", "0000", ("table", tuple((k, "1" + format(k, "04b")) for k in range(8))))))
        self.assertEqual(bulk(sheet), 8 * (4 + 40 + 3))
        rows = acceptor_of(sheet)
        self.assertIs(is_least(rows), True)
        word = "1001010100" * 3 + "0000"
        for bits in [word, word + "0", word + "000", word + "111"]:
            told = read(sheet, bits)
            self.assertEqual(acceptor_read(rows, bits), ("whole", told[2]) if told[0] == "thing" else told)


class IsLeastTest(unittest.TestCase):
    def test_all_small_ones(self):
        for many in (1, 2):
            steps = list(itertools.product(range(many), range(many), ["open", "whole", "dead"]))
            for rows in itertools.product(steps, repeat=many):
                self.assertIs(is_least(list(rows)), plainly_least(list(rows)), rows)

    def test_random_ones(self):
        chance = random.Random(62)
        for _ in range(3000):
            rows = random_rows(chance, 5)
            self.assertIs(is_least(rows), plainly_least(rows), rows)

    def test_bent_in_one_entry(self):
        chance, found = some_acceptors(63, 40)
        for rows in found:
            self.assertTrue(plainly_least(rows))
            self.assertIs(is_least(rows), True, rows)
            for k in range(len(rows)):
                for j, others in ((0, range(len(rows))), (1, range(len(rows))), (2, ["open", "whole", "dead"])):
                    for other in others:
                        row = rows[k][:j] + (other,) + rows[k][j + 1:]
                        bent = rows[:k] + [row] + rows[k + 1:]
                        self.assertIs(is_least(bent), plainly_least(bent), bent)

    def test_numbered_in_another_order(self):
        for rows in (UNTIL, TWO):
            for order in [(0,) + rest for rest in itertools.permutations(range(1, 4))]:
                moved = [None] * 4
                for k in range(4):
                    moved[order[k]] = (order[rows[k][0]], order[rows[k][1]], rows[k][2])
                self.assertIs(is_least(moved), order == (0, 1, 2, 3))

    def test_two_states_not_parted(self):
        self.assertIs(is_least([(1, 2, "open"), (3, 3, "open"), (3, 3, "open"), (4, 4, "whole"), (4, 4, "dead")]), False)
        self.assertIs(is_least([(1, 1, "whole"), (2, 2, "dead"), (2, 2, "dead")]), False)
        self.assertIs(is_least([(1, 2, "open"), (3, 3, "whole"), (3, 3, "whole"), (3, 3, "dead")]), False)
        self.assertIs(is_least([(1, 2, "open"), (1, 1, "open"), (3, 3, "whole"), (3, 3, "dead")]), False)
        self.assertIs(is_least([(0, 0, "open")]), False)
        self.assertIs(is_least(NONE + [(1, 1, "dead")]), False)

    def test_other_values(self):
        for value in ANY_VALUES + [
            tuple(UNTIL), SubList(UNTIL), [list(row) for row in UNTIL], [SubTuple(UNTIL[0])] + UNTIL[1:], UNTIL + [()], [(1, 2)] + UNTIL[1:],
            [(1, 2, "open", 0)] + UNTIL[1:], [(1, 2, SubStr("open"))] + UNTIL[1:], [(1, 2, "Open")] + UNTIL[1:], [(1, 2, None)] + UNTIL[1:],
            [(True, 2, "open")] + UNTIL[1:], [(SubInt(1), 2, "open")] + UNTIL[1:], [(1, 4, "open")] + UNTIL[1:], [(1, -1, "open")] + UNTIL[1:],
            [(1.0, 2, "open")] + UNTIL[1:], [("1", 2, "open")] + UNTIL[1:], [(False, False, "dead")], [(1, True, "whole"), (1, 1, "dead")], [[0, 0, "dead"]],
        ]:
            self.assertIs(is_least(value), False, repr(value)[:60])

    def test_large_values(self):
        chain = [(k + 1, k + 1, "open") for k in range(2200)] + [(2201, 2201, "whole"), (2201, 2201, "dead")]
        self.assertIs(is_least(chain), True)
        self.assertIs(is_least(chain[:-1]), False)
        loose = [((7 * k + 1) % 2000, (11 * k + 2) % 2000, "open") for k in range(2000)]
        self.assertIs(is_least(loose), False)
        chance = random.Random(64)
        self.assertIs(is_least([(chance.randrange(2000), chance.randrange(2000), chance.choice(["open", "open", "whole"])) for _ in range(2000)]), False)


class AtStatesTest(unittest.TestCase):
    def test_against_lists_of_words(self):
        chance, found = some_acceptors(65, 60)
        for rows in found:
            bits = oracle.random_bits(chance, 0, 5)
            for state in range(len(rows)):
                self.assertEqual(state_behind(rows, state, bits), lead(rows, state, bits))
                moved = [(zero + 1, one_ + 1, kind) for zero, one_, kind in rows]
                words = words_of([moved[state]] + moved, len(rows))
                self.assertEqual(first_word(rows, state), oracle.by_length(words)[0] if words else None)
                if len(rows) > 2 and rows[state][2] == "open":
                    self.assertLessEqual(len(first_word(rows, state)), len(rows) - 2)
                for other in range(len(rows)):
                    self.check_parted(rows, state, other)
            for bits in oracle.all_bits(3):
                self.check_behind(rows, bits)

    def check_parted(self, rows, p, q):
        told = parted_by(rows, p, q)
        if p == q:
            self.assertIsNone(told)
            return
        self.assertNotEqual(rows[lead(rows, p, told)][2], rows[lead(rows, q, told)][2])
        for bits in oracle.all_bits(len(told)):
            if (len(bits), bits) < (len(told), told):
                self.assertEqual(rows[lead(rows, p, bits)][2], rows[lead(rows, q, bits)][2])
        if rows[p][2] == rows[q][2]:
            self.assertLessEqual(len(told), len(rows) - 3)

    def check_behind(self, rows, bits):
        found = behind(rows, bits)
        self.assertTrue(plainly_least(found))
        words = [word[len(bits):] for word in words_of(rows, 7) if word.startswith(bits)]
        self.assertEqual(sorted(words_of(found, 7 - len(bits))), sorted(words))
        self.assertEqual(behind(found, "01"), behind(rows, bits + "01"))

    def test_behind_open_whole_and_dead_bits(self):
        for rows in (UNTIL, TWO, EMPTY, NONE):
            self.assertEqual(behind(rows, ""), rows)
        self.assertEqual(behind(UNTIL, "1"), EMPTY)
        self.assertEqual(behind(UNTIL, "10"), NONE)
        self.assertEqual(behind(TWO, "1"), [(1, 2, "open"), (2, 2, "whole"), (2, 2, "dead")])
        self.assertEqual([behind(TWO, "11"), behind(TWO, "1100101" * 50), behind(NONE, "1"), behind(EMPTY, "0")], [NONE] * 4)

    def test_acceptor_read(self):
        self.assertEqual([acceptor_read(NONE, ""), acceptor_read(NONE, "01"), acceptor_read(EMPTY, ""), acceptor_read(EMPTY, "1")],
                         [("dead", 0), ("dead", 0), ("whole", 0), ("whole", 0)])
        self.assertEqual([acceptor_read(TWO, bits) for bits in ["", "0", "01", "1", "10", "11", "1" * 400]],
                         [("more",), ("whole", 1), ("whole", 1), ("more",), ("whole", 2), ("dead", 2), ("dead", 2)])
        self.assertEqual(acceptor_read(UNTIL, "00" * 200), ("more",))

    def test_is_full(self):
        self.assertEqual([is_full(NONE), is_full(EMPTY), is_full(TWO), is_full(UNTIL)], [False, True, False, True])
        _, found = some_acceptors(66, 80)
        for rows in found:
            expected = any(row[2] == "whole" for row in rows) and all(
                rows[other][2] != "dead" for row in rows for other in row[:2] if row[2] == "open")
            self.assertIs(is_full(rows), expected)
            self.assertIs(shares(rows)[0] == (1, 1), expected)

    def test_shares(self):
        chance, found = some_acceptors(67, 80, 9)
        for rows in found:
            told = shares(rows)
            self.assertEqual(len(told), len(rows))
            for (zero, one_, kind), (top, bottom) in zip(rows, told):
                self.assertTrue(type(top) is int and type(bottom) is int and bottom >= 1)
                share = Fraction(top, bottom)
                self.assertEqual((share.numerator, share.denominator), (top, bottom))
                if kind == "open":
                    self.assertEqual(2 * share, Fraction(*told[zero]) + Fraction(*told[one_]))
                    self.assertTrue(0 < share <= 1)
                else:
                    self.assertEqual(share, kind == "whole")
            n = chance.randint(0, 5)
            total = sum(Fraction(1, 2 ** len(word)) for word in words_of(rows, n))
            for bits in oracle.all_bits(n):
                if len(bits) == n and rows[lead(rows, 0, bits)][2] == "open":
                    total += Fraction(*told[lead(rows, 0, bits)]) / 2 ** n
            self.assertEqual(total, Fraction(*told[0]))

    def test_shares_of_sixty_rows(self):
        chance = random.Random(68)
        rows = []
        while len(rows) < 50:
            many = 58
            loose = [(chance.randrange(many + 1), chance.randrange(many), "open") for _ in range(many)]
            rows = least_acceptor(loose + [(many + 1, many + 1, "whole"), (many + 1, many + 1, "dead")])
        told = shares(rows)
        for (zero, one_, kind), share in zip(rows, told):
            if kind == "open":
                self.assertEqual(2 * Fraction(*share), Fraction(*told[zero]) + Fraction(*told[one_]))


class ErrorsTest(unittest.TestCase):
    def test_sheets(self):
        for call in (bulk, teller_bulk, acceptor_of):
            for value in ANY_VALUES:
                with self.assertRaises(InvalidSheet):
                    call(value)
            for sheet in (FAULTY, RINGED_AND_FAULTY):
                with self.assertRaises(Faulty):
                    call(sheet=sheet)
            for sheet, name in [(TREE, "tree"), (BOX, "tree"), (one(("width", 1), ("z", ("row", (("bits", "1"), ("ref", "z")))), ("n", ("row", (("bits", "1"), ("ref", "z"))))), "z")]:
                with self.assertRaises(Endless) as caught:
                    call(sheet)
                self.assertEqual(caught.exception.name, name)
            with self.assertRaises(Endless):
                call(one(("bits", "0" * 400), ("x", ("bits", "0" * 400)), ("z", ("row", (("bits", "1"), ("ref", "z"))))))
        self.assertEqual([bulk(CODES), bulk(EVEN)], [8, 6])

    def test_acceptors(self):
        calls = [
            lambda rows: state_behind(rows, None, None), lambda rows: acceptor_read(rows, None), lambda rows: first_word(rows, None),
            lambda rows: parted_by(rows, None, None), lambda rows: behind(rows, None), is_full, shares,
        ]
        for call in calls:
            for value in ANY_VALUES + [tuple(UNTIL), UNTIL[::-1]]:
                with self.assertRaises(InvalidAcceptor):
                    call(value)
        for value in ANY_VALUES + [4, -1]:
            if not (type(value) is int and 0 <= value < 4):
                for call in (lambda: state_behind(UNTIL, value, None), lambda: first_word(acceptor=UNTIL, state=value),
                             lambda: parted_by(UNTIL, value, 0), lambda: parted_by(UNTIL, value, None), lambda: parted_by(acceptor=UNTIL, state=0, other_state=value)):
                    with self.assertRaises(InvalidState):
                        call()
            if not (type(value) is str and set(value) <= set("01")):
                for call in (lambda: state_behind(acceptor=UNTIL, state=0, bits=value), lambda: acceptor_read(UNTIL, bits=value), lambda: behind(UNTIL, bits=value)):
                    with self.assertRaises(InvalidBits):
                        call()

    def test_arguments_stay(self):
        rows = list(UNTIL)
        found = behind(rows, "")
        found.append(1)
        shares(rows).append(1)
        self.assertEqual(rows, UNTIL)
        self.assertEqual(behind(rows, ""), UNTIL)


if __name__ == "__main__":
    unittest.main()
