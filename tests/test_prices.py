"""[24]: floors of prices, the cheapest things, the first thing with a length."""

import random
import unittest

from tests import oracle
from tests.examples import ANY_VALUES, BOX, CODES, EVEN, TREE, SubInt, SubList, SubStr, SubTuple
from termsonwires.errors import Faulty, InvalidCount, InvalidPrice, InvalidSheet
from termsonwires.faults import faults
from termsonwires.prices import cheapest, is_floor, price_floor, thing_of_length
from termsonwires.things import word_of

EMPTY = ("bits", "")
FAULTY = ("m", (("m", ("table", ((1, "0"), (2, "0")))),))
NONE = ("m", (("m", ("row", (("bits", "1"), ("table", ())))),))
PRICES = [(0, 0), (0, 1), (1, 0), (-1, 2), (3, -2), (10 ** 12 - 1, -5), (-1, -1), (0, -1), (-(10 ** 12) + 1, 7), (5, 5)]


def one(term, *entries):
    return ("m", tuple(sorted((("m", term),) + entries)))


def price(word, zero, one_):
    return zero * word.count("0") + one_ * word.count("1")


def least_prices(found, zero, one_, most):
    row = [None] * (most + 1)
    for word in found.values():
        if row[len(word)] is None or price(word, zero, one_) < row[len(word)]:
            row[len(word)] = price(word, zero, one_)
    return row


def added(*parts):
    return None if None in parts else sum(parts)


def least(parts):
    return min([part for part in parts if part is not None], default=None)


class Plain:
    """Prices by a table, read off the document's table once more."""

    def __init__(self, sheet, prices, most, given):
        self.prices, self.most, self.given = prices, most, given
        self.true = oracle.tables(sheet, most)

    def words(self, term):
        return oracle.things_by(term, self.true, self.most, 0)

    def row(self, parts):
        total = [0] + [None] * self.most
        for part in parts:
            total = [least(added(total[k], part[n - k]) for k in range(n + 1)) for n in range(self.most + 1)]
        return total

    def behind(self, word, part):
        cost = price(word, *self.prices)
        return [None] * min(len(word), self.most + 1) + [added(cost, x) for x in part[:max(0, self.most + 1 - len(word))]]

    def any_of(self, rows):
        return [least(row[n] for row in rows) for n in range(self.most + 1)] if rows else [None] * (self.most + 1)

    def of(self, term):
        kind = term[0]
        if kind == "ref":
            return self.given[term[1]]
        if kind in ("bits", "table", "width", "checked"):
            return least_prices(self.words(term), *self.prices, self.most)
        inner = [self.of(part) for part in oracle.parts_of(term)]
        if kind in ("row", "times"):
            return self.row(inner if kind == "row" else inner * term[1])
        if kind == "either":
            return self.any_of([self.behind(way[1], part) for way, part in zip(term[1], inner)])
        if kind == "until":
            item = [None] + inner[0][1:]
            return self.any_of([self.behind(term[1], self.row([item] * k)) for k in range(self.most + 1)])
        numbers = oracle.integers(self.words(term[1]))
        if kind == "counted":
            return self.any_of([self.behind(numbers[k], self.row([inner[1]] * k)) for k in numbers])
        exact = lambda k: [x if n == k else None for n, x in enumerate(inner[1])]
        return self.any_of([self.behind(numbers[k], exact(k)) for k in numbers])


def plainly_floor(sheet, prices, most, value):
    plain = Plain(sheet, prices, most, dict(value))
    for name, term in sheet[1]:
        for mine, by_term in zip(dict(value)[name], plain.of(term)):
            if by_term is not None and (mine is None or mine > by_term):
                return False
    return True


class PricesTest(unittest.TestCase):
    def test_examples(self):
        self.assertEqual(price_floor(TREE, 0, 1, 7), [("tree", [None, None, None, 0, None, None, None, 1])])
        self.assertEqual([cheapest(TREE, 0, -1, 7), cheapest(CODES, 0, -1, 4)], [(-5, ("node", (("leaf", 3), ("leaf", 3)))), (-3, ("b",))])

    def sheets(self, seed, many):
        chance = random.Random(seed)
        sheets = [oracle.random_sheet(chance) for _ in range(many)] + [oracle.ringed_sheet(chance) for _ in range(many)]
        return chance, [sheet for sheet in sheets if not faults(sheet)]

    def test_against_all_words(self):
        chance, sheets = self.sheets(40, 250)
        for sheet in sheets:
            true = oracle.tables(sheet, 8)
            zero, one_ = chance.choice(PRICES)
            floor = [(name, least_prices(true[name], zero, one_, 8)) for name in sorted(true)]
            self.assertEqual(price_floor(sheet, zero, one_, 8), floor, (sheet, zero, one_))
            self.assertIs(is_floor(sheet, zero, one_, 8, floor), True)
            words = {word: thing for thing, word in true[sheet[0]].items()}
            order = sorted(words, key=lambda word: (price(word, zero, one_), len(word), word))
            expected = (price(order[0], zero, one_), words[order[0]]) if order else None
            self.assertEqual(repr(cheapest(sheet, zero, one_, 8)), repr(expected), (sheet, zero, one_))
            for length in range(9):
                first = sorted(word for word in words if len(word) == length)
                self.assertEqual(repr(thing_of_length(sheet, length)), repr(words[first[0]] if first else None))

    def test_floors_by_the_table(self):
        chance, sheets = self.sheets(41, 60)
        for sheet in sheets:
            prices = chance.choice(PRICES[:5])
            floor = price_floor(sheet, *prices, 5)
            for _ in range(8):
                bent = [(name, [chance.choice([x, x, x, x, None, -3, 0, 2]) for x in row]) for name, row in floor]
                self.assertIs(is_floor(sheet, *prices, 5, bent), plainly_floor(sheet, prices, 5, bent), (sheet, prices, bent))
            for k, (name, row) in enumerate(floor):
                for n in range(6):
                    if row[n] is not None:
                        for more in (row[n] + 1, None):
                            raised = floor[:k] + [(name, row[:n] + [more] + row[n + 1:])] + floor[k + 1:]
                            self.assertIs(is_floor(sheet, *prices, 5, raised), False)

    def test_checks_hang_on_words(self):
        machine = ((0, 1, "0000"), (1, 0, "1111"))
        sheet = one(("checked", machine, ("width", 3)))
        self.assertEqual(price_floor(sheet, 0, 1, 7), [("m", [None] * 7 + [0])])
        self.assertEqual(price_floor(sheet, 1, 0, 7), [("m", [None] * 7 + [0])])
        self.assertEqual(cheapest(sheet, 0, 1, 7), (0, 0))
        self.assertEqual(cheapest(sheet, 2, -1, 7), (-7, 7))
        self.assertEqual(cheapest(sheet, 9, -1, 7), (-7, 7))
        nested = one(("checked", machine, ("row", (("checked", ((1, 0, "1"), (1, 1, "0")), ("width", 2)), ("ref", "n")))),
                     ("n", ("until", "0", ("table", (("a", "10"), ("b", "11"))))))
        for zero, one_ in PRICES:
            true = oracle.tables(nested, 12)
            expected = [(name, least_prices(true[name], zero, one_, 12)) for name in ("m", "n")]
            self.assertEqual(price_floor(nested, zero, one_, 12), expected)

    def test_ties(self):
        sheet = one(("table", (("a", "110"), ("b", "101"), ("c", "011"), ("d", "0100"), ("e", "00"))))
        self.assertEqual(cheapest(sheet, 0, 1, 60), (0, "e"))
        self.assertEqual(cheapest(sheet, 1, 1, 60), (2, "e"))
        self.assertEqual(cheapest(sheet, 0, 0, 60), (0, "e"))
        self.assertEqual(cheapest(sheet, 2, -1, 60), (0, "c"))
        self.assertEqual(cheapest(sheet, 2, -1, 2), (4, "e"))
        self.assertIsNone(cheapest(sheet, 2, -1, 1))
        self.assertEqual([thing_of_length(sheet, n) for n in (2, 3, 4, 5)], ["e", "c", "d", None])
        self.assertIsNone(cheapest(NONE, 0, 0, 60))
        self.assertIsNone(thing_of_length(NONE, 2))

    def test_sixty_bits(self):
        self.assertEqual(price_floor(TREE, 10 ** 12 - 1, 1 - 10 ** 12, 60)[0][1][3], 1 - 10 ** 12)
        thing = thing_of_length(TREE, 59)
        self.assertEqual(len(word_of(TREE, thing)), 59)
        self.assertIsNone(thing_of_length(TREE, 60))
        self.assertEqual(cheapest(TREE, 0, -1, 60)[0], -(59 - 15))
        row = price_floor(BOX, 1, 1, 60)[0][1]
        self.assertEqual([n for n in range(61) if row[n] is not None], [6, 10])

    def test_no_floors(self):
        good = price_floor(TREE, 0, 1, 3)
        self.assertIs(is_floor(sheet=TREE, zero=0, one=1, most=3, value=good), True)
        self.assertIs(is_floor(TREE, 0, 1, 3, [("tree", [None, None, None, -(10 ** 89)])]), True)
        self.assertIs(is_floor(TREE, 0, 1, 3, [("tree", [0, 0, 0, 0])]), True)
        self.assertIs(is_floor(TREE, 0, 1, 3, [("tree", [0, 0, 0, 1])]), False)
        row = good[0][1]
        for value in ANY_VALUES + [
            [], tuple(good), good + good, [list(good[0])], [("tree", tuple(row))], [("tree", row[:3])], [("tree", row + [None])], [("box", row)],
            [("tree", row, row)], [("tree", [None, None, None, False])], [("tree", [None, None, None, "0"])], [("tree", [None, None, None, SubInt(0)])],
            [(SubStr("tree"), row)], [SubTuple(good[0])], SubList(good), [("tree", SubList(row))], [("tree", [None, None, None, ()])],
        ]:
            self.assertIs(is_floor(TREE, 0, 1, 3, value), False, repr(value)[:60])

    def test_errors_in_order(self):
        calls = [price_floor, cheapest, lambda *args: is_floor(*args, None)]
        for call in calls:
            for value in ANY_VALUES:
                with self.assertRaises(InvalidSheet):
                    call(value, None, None, None)
                with self.assertRaises(Faulty):
                    call(FAULTY, value, None, None)
                if not (type(value) is int and abs(value) < 10 ** 12):
                    with self.assertRaises(InvalidPrice):
                        call(TREE, value, 0, None)
                    with self.assertRaises(InvalidPrice):
                        call(TREE, 0, value, None)
                if not (type(value) is int and 0 <= value <= 60):
                    with self.assertRaises(InvalidCount):
                        call(TREE, 0, 0, value)
            for bad in (10 ** 12, -(10 ** 12), True, SubInt(1)):
                with self.assertRaises(InvalidPrice):
                    call(TREE, bad, 0, 99)
            with self.assertRaises(InvalidCount):
                call(TREE, 10 ** 12 - 1, 1 - 10 ** 12, 61)
        for value in (61, -1, True, None, "3"):
            with self.assertRaises(InvalidCount):
                thing_of_length(TREE, length=value)
        with self.assertRaises(InvalidSheet):
            thing_of_length((), 99)
        with self.assertRaises(Faulty):
            thing_of_length(FAULTY, 99)
        self.assertEqual(cheapest(EVEN, 0, 1, 3), (0, 0))


if __name__ == "__main__":
    unittest.main()
