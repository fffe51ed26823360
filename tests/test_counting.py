"""[21], [25]: numbers of words, against the list of all words and against the table of [21] read once more."""

import random
import unittest

from tests import oracle
from tests.examples import ANY_VALUES, BOX, CODES, EVEN, TREE, SubInt, SubList, SubStr, SubTuple
from termsonwires.counting import (
    count_all, count_from, count_table, count_things, counts_up_to, is_count_table, nth_thing, rank_of)
from termsonwires.errors import Faulty, InvalidBits, InvalidCount, InvalidSheet, InvalidThing, TooMany
from termsonwires.faults import faults
from termsonwires.growth import growth, most_length
from termsonwires.reading import rest
from termsonwires.things import word_of

EMPTY = ("bits", "")
NO = ("table", ())
FAULTY = ("m", (("m", ("table", ((1, "0"), (2, "0")))),))
NONE = ("m", (("m", ("row", (("bits", "1"), NO))),))
MACHINE = ((0, 1, "0"), (1, 0, "1"))


def one(term, *entries):
    return ("m", tuple(sorted((("m", term),) + entries)))


def some_sheets(seed, many):
    chance = random.Random(seed)
    sheets = [oracle.random_sheet(chance) for _ in range(many)] + [oracle.ringed_sheet(chance) for _ in range(many)]
    return chance, [sheet for sheet in sheets if not faults(sheet)]


def true_counts(found, most):
    row = [0] * (most + 1)
    for word in found.values():
        row[len(word)] += 1
    return row


class Plain:
    """Counts by a table, read off the document's table once more."""

    def __init__(self, sheet, most, given):
        self.most, self.given = most, given
        self.true = oracle.tables(sheet, most)

    def words(self, term):
        return oracle.things_by(term, self.true, self.most, 0)

    def row(self, parts):
        total = [1] + [0] * self.most
        for part in parts:
            total = [sum(total[k] * part[n - k] for k in range(n + 1)) for n in range(self.most + 1)]
        return total

    def behind(self, bits, part):
        return [0] * min(bits, self.most + 1) + part[:max(0, self.most + 1 - bits)]

    def any_of(self, rows):
        return [sum(row[n] for row in rows) for n in range(self.most + 1)]

    def of(self, term):
        kind = term[0]
        if kind == "ref":
            return self.given[term[1]]
        if kind in ("bits", "table", "width"):
            return true_counts(self.words(term), self.most)
        inner = [self.of(part) for part in oracle.parts_of(term)]
        if kind in ("row", "times"):
            return self.row(inner if kind == "row" else inner * term[1])
        if kind == "either":
            return self.any_of([self.behind(len(way[1]), part) for way, part in zip(term[1], inner)])
        if kind == "checked":
            return self.behind(len(term[1][0][2]), inner[0])
        if kind == "until":
            found = []
            for n in range(self.most + 1):
                found.append((n == len(term[1])) + sum(inner[0][i] * found[n - i] for i in range(1, n + 1)))
            return found
        numbers = oracle.integers(self.words(term[1]))
        if kind == "counted":
            return self.any_of([self.behind(len(numbers[k]), self.row([inner[1]] * k)) for k in numbers])
        exact = lambda k: [x if n == k else 0 for n, x in enumerate(inner[1])]
        return self.any_of([self.behind(len(numbers[k]), exact(k)) for k in numbers])


def plainly_balances(sheet, most, value):
    plain = Plain(sheet, most, dict(value))
    return all(plain.of(term) == dict(value)[name] for name, term in sheet[1])


class CountingTest(unittest.TestCase):
    def test_examples(self):
        self.assertEqual([counts_up_to(TREE, 11), counts_up_to(CODES, 6), count_all(BOX), count_from(TREE, "10", 11)],
                         [[0, 0, 0, 4, 0, 0, 0, 16, 0, 0, 0, 128], [0, 0, 1, 0, 3, 0, 9], 20, 64])
        self.assertEqual([nth_thing(TREE, 4), rank_of(TREE, ("node", (("leaf", 1), ("leaf", 2)))), nth_thing(BOX, 20)],
                         [("node", (("leaf", 0), ("leaf", 0))), 10, None])

    def test_against_all_words(self):
        chance, sheets = some_sheets(50, 260)
        for sheet in sheets:
            true = oracle.tables(sheet, 8)
            table = [(name, true_counts(true[name], 8)) for name in sorted(true)]
            self.assertEqual(count_table(sheet, 8), table, sheet)
            self.assertIs(is_count_table(sheet, 8, table), True)
            counts = dict(table)[sheet[0]]
            self.assertEqual(counts_up_to(sheet, 8), counts)
            most = chance.randint(0, 8)
            self.assertEqual([counts_up_to(sheet, most), count_things(sheet, most)], [counts[:most + 1], counts[most]])
            self.check_order(sheet, {word: thing for thing, word in true[sheet[0]].items()}, chance)

    def check_order(self, sheet, things, chance):
        order = oracle.by_length(things)
        for number in sorted({0, len(order) - 1, chance.randint(0, len(order) or 1)} & set(range(len(order)))):
            thing = things[order[number]]
            self.assertEqual(repr(nth_thing(sheet, number)), repr(thing), (sheet, number))
            self.assertEqual(rank_of(sheet, thing), number)
        if order:
            word = chance.choice(order)
            for cut in range(len(word) + 1):
                for length in range(9):
                    many = sum(other.startswith(word[:cut]) and len(other) == length for other in order)
                    self.assertEqual(count_from(sheet, word[:cut], length), many, (sheet, word[:cut], length))
        for bits in [oracle.random_bits(chance, 0, 5) for _ in range(3)]:
            length = chance.randint(0, 8)
            many = sum(other.startswith(bits) and len(other) == length for other in order)
            self.assertEqual(count_from(sheet, bits, length), many, (sheet, bits, length))

    def test_tables_that_balance(self):
        chance, sheets = some_sheets(51, 50)
        for sheet in sheets:
            table = count_table(sheet, 5)
            self.assertTrue(plainly_balances(sheet, 5, table), sheet)
            for k, (name, row) in enumerate(table):
                for n in range(6):
                    for many in {row[n] + 1, row[n] + 10 ** 40, max(row[n] - 1, 0)} - {row[n]}:
                        bent = table[:k] + [(name, row[:n] + [many] + row[n + 1:])] + table[k + 1:]
                        self.assertIs(is_count_table(sheet, 5, bent), False)
                        self.assertFalse(plainly_balances(sheet, 5, bent))

    def test_true_numbers_behind_refs(self):
        sheet = one(("counted", ("ref", "k"), ("ref", "i")), ("k", ("table", ((2, "0"), (0, "11")))), ("i", ("width", 1)))
        table = [("i", [0, 2, 0, 0]), ("k", [0, 1, 1, 0]), ("m", [0, 0, 1, 4])]
        self.assertEqual(count_table(sheet, 3), table)
        self.assertIs(is_count_table(sheet, 3, table), True)
        bent = [("i", [0, 2, 0, 0]), ("k", [0, 0, 1, 0]), ("m", [0, 0, 1, 0])]
        self.assertIs(is_count_table(sheet, 3, bent), False)
        sized = one(("sized", ("checked", MACHINE, ("width", 2)), ("until", "1", ("bits", "0"))))
        self.assertEqual(counts_up_to(sized, 7), [0, 0, 0, 0, 1, 1, 1, 0])

    def test_count_all(self):
        _, sheets = some_sheets(52, 200)
        for sheet in sheets:
            if growth(sheet) is not None:
                self.assertIsNone(count_all(sheet))
            elif (most_length(sheet) or 0) <= 14:
                found = oracle.words(sheet, most_length(sheet) or 0)
                self.assertEqual(count_all(sheet), len(found), sheet)
                self.assertEqual(count_all(sheet), sum(counts_up_to(sheet, most_length(sheet) or 0)))

    def test_count_all_of_each_term(self):
        until = ("until", "1", ("bits", "0"))
        for term, many in [
            (("bits", "0110"), 1), (NO, 0), (("width", 8), 256), (("width", 0), 1), (("row", ()), 1), (("row", (("width", 8),) * 30), 256 ** 30),
            (("times", 8, ("times", 8, ("width", 8))), 256 ** 64), (("times", 0, until), 1), (("either", ()), 0), (("counted", ("width", 3), ("width", 1)), 255),
            (("counted", ("table", ((0, "1"), (3, "00"))), NO), 1), (("counted", ("table", ((0, "1"),)), until), 1), (("until", "1", NO), 1), (until, None),
            (("sized", ("width", 4), until), 15), (("sized", ("width", 5), ("times", 4, ("width", 8))), 0), (("sized", NO, until), 0),
            (("checked", MACHINE, ("width", 7)), 128), (("row", (NO, until)), 0), (("either", (("a", "0", ("width", 2)), ("b", "1", NO))), 4),
        ]:
            self.assertEqual(count_all(one(term)), many, term)
        self.assertIsNone(count_all(TREE))
        self.assertEqual(count_all(one(("row", (("width", 1), ("ref", "m"))))), 0)
        dead = one(("either", (("a", "0", ("ref", "r")), ("b", "1", ("width", 3)))), ("r", ("row", (("bits", "1"), ("ref", "r")))), ("s", until))
        self.assertEqual(count_all(dead), 8)
        self.assertEqual(count_all(one(("sized", ("width", 3), ("ref", "tree")), TREE[1][0])), 20)
        long = one(("row", tuple(("times", 8, ("ref", "w")) for _ in range(8))), ("w", ("row", (("width", 8),) * 3)))
        self.assertEqual(count_all(long), 2 ** (64 * 24))

    def test_facts(self):
        chance, sheets = some_sheets(53, 40)
        for sheet in sheets:
            words = oracle.words(sheet, 7)
            begun = sum(any(bits.startswith(word) for word in words.values()) for bits in oracle.all_bits(7) if len(bits) == 7)
            self.assertEqual(sum(many << (7 - n) for n, many in enumerate(counts_up_to(sheet, 7))), begun)
            for _ in range(6):
                bits, n = oracle.random_bits(chance, 0, 6), chance.randint(7, 12)
                self.assertEqual(count_from(sheet, bits, n), count_from(sheet, bits + "0", n) + count_from(sheet, bits + "1", n))
            for bits in oracle.all_bits(2):
                try:
                    has = rest(sheet, bits) is not None and len(bits + rest(sheet, bits)) <= 60
                except TooMany:
                    has = False
                self.assertIs(any(count_from(sheet, bits, n) for n in range(61)), has)

    def test_up_to_sixty_bits(self):
        for number in (0, 1, 5, 20, 10 ** 6, 10 ** 12 + 7, sum(counts_up_to(TREE, 60)) - 1):
            thing = nth_thing(TREE, number)
            self.assertEqual(rank_of(TREE, thing), number)
            word = word_of(TREE, thing)
            by_fact = sum(counts_up_to(TREE, len(word) - 1)) if word else 0
            by_fact += sum(count_from(TREE, word[:i] + "0", len(word)) for i in range(len(word)) if word[i] == "1")
            self.assertEqual(by_fact, number)
        self.assertIsNone(nth_thing(TREE, sum(counts_up_to(TREE, 60))))
        self.assertIsNone(nth_thing(TREE, 10 ** 90))
        wide = one(("row", (("width", 8),) * 7 + (("width", 4),)))
        self.assertEqual(count_things(wide, 60), 2 ** 60)
        self.assertEqual(nth_thing(wide, 2 ** 60 - 1), (255,) * 7 + (15,))
        self.assertEqual(rank_of(wide, (255,) * 7 + (15,)), 2 ** 60 - 1)
        self.assertEqual([count_from(wide, "1" * 60, 60), count_from(wide, "1" * 59, 60), count_from(wide, "1" * 61, 60)], [1, 2, 0])
        past = one(("row", (("width", 8),) * 7 + (("width", 5),)))
        self.assertIsNone(nth_thing(past, 0))
        with self.assertRaises(TooMany) as caught:
            rank_of(past, (0,) * 8)
        self.assertEqual(caught.exception.count, 60)
        self.assertEqual(count_all(past), 2 ** 61)
        mixed = one(("table", (("a", "0" * 60), ("b", "1" * 61))))
        self.assertEqual([nth_thing(mixed, 0), nth_thing(mixed, 1), rank_of(mixed, "a")], ["a", None, 0])
        with self.assertRaises(TooMany):
            rank_of(mixed, "b")
        bits = "10" * 200
        self.assertEqual(count_from(one(("until", "11", ("bits", "10"))), bits[:110], 60), 0)

    def test_no_words(self):
        self.assertEqual([counts_up_to(NONE, 3), count_all(NONE), nth_thing(NONE, 0), count_from(NONE, "", 0)], [[0] * 4, 0, None, 0])
        empty = one(EMPTY)
        self.assertEqual([counts_up_to(empty, 1), count_all(empty), nth_thing(empty, 0), nth_thing(empty, 1), rank_of(empty, ())], [[1, 0], 1, (), None, 0])
        self.assertEqual([count_from(empty, "", 0), count_from(empty, "0", 0), count_from(empty, "0", 1)], [1, 0, 0])

    def test_no_count_tables(self):
        good = count_table(TREE, 3)
        self.assertIs(is_count_table(sheet=TREE, most=3, value=good), True)
        row = good[0][1]
        for value in ANY_VALUES + [
            [], tuple(good), good + good, [list(good[0])], [("tree", tuple(row))], [("tree", row[:3])], [("tree", row + [0])], [("box", row)],
            [("tree", row, row)], [("tree", [False, 0, 0, 4])], [("tree", [0, 0, 0, "4"])], [("tree", [0, 0, 0, SubInt(4)])], [("tree", [0, 0, 0, 4.0])],
            [(SubStr("tree"), row)], [SubTuple(good[0])], SubList(good), [("tree", SubList(row))], [("tree", [0, 0, 0, None])], [("tree", [0, 0, -1, 4])],
        ]:
            self.assertIs(is_count_table(TREE, 3, value), False, repr(value)[:60])

    def test_errors_in_order(self):
        for call in (count_table, count_things, counts_up_to, nth_thing, lambda sheet, most: is_count_table(sheet, most, None)):
            for value in ANY_VALUES:
                with self.assertRaises(InvalidSheet):
                    call(value, None)
                with self.assertRaises(Faulty):
                    call(FAULTY, value)
                if not (type(value) is int and 0 <= value):
                    with self.assertRaises(InvalidCount):
                        call(TREE, value)
        for call in (count_table, count_things, counts_up_to, lambda sheet, most: is_count_table(sheet, most, None)):
            with self.assertRaises(InvalidCount):
                call(TREE, 61)
        for value in ANY_VALUES:
            with self.assertRaises(InvalidSheet):
                count_all(value)
            with self.assertRaises(InvalidSheet):
                rank_of(value, 1)
            with self.assertRaises(InvalidSheet):
                count_from(value, None, None)
            with self.assertRaises(Faulty):
                rank_of(FAULTY, value)
            with self.assertRaises(InvalidThing):
                rank_of(TREE, value)
            if not (type(value) is str and set(value) <= set("01")):
                with self.assertRaises(InvalidBits):
                    count_from(TREE, value, None)
            if not (type(value) is int and 0 <= value <= 60):
                with self.assertRaises(InvalidCount):
                    count_from(sheet=TREE, bits="0", length=value)
        with self.assertRaises(Faulty) as caught:
            count_all(FAULTY)
        self.assertEqual(caught.exception.faults, [("m", (), "tags")])
        with self.assertRaises(Faulty):
            count_from(FAULTY, 1, 1)
        with self.assertRaises(InvalidCount):
            count_from(TREE, "0", 61)
        self.assertEqual(rank_of(EVEN, 3), 3)


if __name__ == "__main__":
    unittest.main()
