"""[21]: the lengths of words, closed tables, the least length."""

import random
import unittest

from tests import oracle
from tests.examples import ANY_VALUES, BOX, CODES, EVEN, TREE, SubInt, SubList, SubStr, SubTuple
from termsonwires.errors import Faulty, InvalidCount, InvalidSheet
from termsonwires.faults import faults
from termsonwires.lengths import is_closed, least_length, length_table, lengths

EMPTY = ("bits", "")
FAULTY = ("m", (("m", ("table", ((1, "0"), (2, "0")))),))
NONE = ("m", (("m", ("row", (("bits", "1"), ("table", ())))),))
ENDLESS = ("m", (("m", ("row", (("bits", "1"), ("ref", "m")))),))


def one(term, *entries):
    return ("m", tuple(sorted((("m", term),) + entries)))


def sums(rows, most):
    total = {0}
    for row in rows:
        total = {a + b for a in total for b in row if a + b <= most}
    return total


def by_table(term, given, numbers, most):
    """The lengths of a term by a table; numbers(term) tells the true integers and words of a number."""
    kind = term[0]
    inner = [by_table(part, given, numbers, most) for part in oracle.parts_of(term)]
    if kind == "ref":
        found = given[term[1]]
    elif kind == "row":
        found = sums(inner, most)
    elif kind == "times":
        found = sums(inner * term[1], most)
    elif kind == "either":
        found = {len(way[1]) + length for way, part in zip(term[1], inner) for length in part}
    elif kind == "counted":
        found = {len(word) + length for k, word in numbers(term[1]).items() for length in sums([inner[1]] * k, most)}
    elif kind == "until":
        total = {0}
        for _ in range(most):
            total |= {a + b for a in total for b in inner[0] if a + b <= most}
        found = {len(term[1]) + length for length in total}
    elif kind == "sized":
        found = {len(word) + k for k, word in numbers(term[1]).items() if k in inner[1]}
    elif kind == "checked":
        found = {length + len(term[1][0][2]) for length in inner[0]}
    else:
        found = {len(word) for word in oracle.things_by(term, {}, most, 0).values()}
    return {length for length in found if length <= most}


def plainly_closed(sheet, most, value):
    given = {name: set(row) for name, row in value}
    true = oracle.tables(sheet, 12)
    numbers = lambda term: oracle.integers(oracle.things_by(term, true, 12, 0))
    return all(by_table(term, given, numbers, most) <= given[name] for name, term in sheet[1])


class LengthsTest(unittest.TestCase):
    def test_examples(self):
        self.assertEqual([lengths(TREE, 11), length_table(BOX, 10)], [[3, 7, 11], [("p", [6, 10]), ("tree", [3, 7])]])
        self.assertIs(is_closed(BOX, 10, [("p", [6, 10]), ("tree", [3, 7, 9])]), True)
        self.assertIs(is_closed(BOX, 10, [("p", [6]), ("tree", [3, 7])]), False)

    def test_true_lengths(self):
        chance = random.Random(20)
        sheets = [oracle.random_sheet(chance) for _ in range(200)] + [oracle.ringed_sheet(chance) for _ in range(250)]
        for sheet in sheets:
            if faults(sheet):
                continue
            true = [(name, sorted({len(word) for word in found.values()})) for name, found in sorted(oracle.tables(sheet, 9).items())]
            self.assertEqual(length_table(sheet, 9), true, sheet)
            self.assertEqual(lengths(sheet, 9), dict(true)[sheet[0]])
            self.assertEqual(length_table(sheet, 4), [(name, [k for k in row if k <= 4]) for name, row in true])
            self.assertIs(is_closed(sheet, 9, true), True)
            for name, row in true:
                for length in chance.sample(range(10), 4):
                    bent = sorted(set(row) ^ {length})
                    table = [(other, bent if other == name else list(old)) for other, old in true]
                    self.assertIs(is_closed(sheet, 9, table), plainly_closed(sheet, 9, table), (sheet, table))

    def test_least_length(self):
        chance = random.Random(21)
        for sheet in [oracle.random_sheet(chance) for _ in range(200)] + [oracle.ringed_sheet(chance) for _ in range(200)]:
            if not faults(sheet):
                least = least_length(sheet)
                short = [len(word) for word in oracle.words(sheet, 9).values()]
                self.assertEqual(least if least is not None and least <= 9 else None, min(short, default=None))
        self.assertEqual([least_length(sheet) for sheet in (TREE, BOX, CODES, EVEN, NONE, ENDLESS)], [3, 6, 2, 3, None, None])
        long = one(("times", 8, ("times", 8, ("until", "1", ("bits", "0")))))
        self.assertEqual(least_length(long), 64)
        self.assertEqual(least_length(one(("times", 8, ("row", (("bits", "0" * 60),) * 4)))), 1920)
        self.assertEqual(least_length(one(("sized", ("table", ((3, "000000"), (9, "1"))), ("until", "111", ("bits", "010"))))), 9)
        self.assertEqual(least_length(one(("either", (("a", "1", ("ref", "m")), ("b", "0", ("bits", "0" * 50)))))), 51)

    def test_up_to_sixty(self):
        thirds = one(("until", "11", ("table", (("a", "000"), ("b", "01" * 2)))))
        self.assertEqual(lengths(thirds, 60), [n for n in range(61) if any((n - 2 - 3 * k) % 4 == 0 and n - 2 - 3 * k >= 0 for k in range(20))])
        self.assertEqual(lengths(TREE, 60), list(range(3, 61, 4)))
        self.assertEqual(lengths(one(("bits", "0" * 60)), 60), [60])
        self.assertEqual(lengths(one(("bits", "0" * 60)), 59), [])
        self.assertEqual(lengths(one(("sized", ("width", 5), ("until", "1", ("bits", "00")))), 60), list(range(6, 37, 2)))
        self.assertEqual(lengths(one(("sized", ("width", 5), ("until", "1", ("bits", "00")))), 9), [6, 8])
        self.assertEqual(lengths(one(EMPTY), 0), [0])

    def test_numbers_are_the_true_ones(self):
        sheet = one(("counted", ("ref", "n"), ("ref", "i")), ("i", ("width", 1)), ("n", ("table", ((2, "0"), (4, "10")))))
        good = [("i", [1]), ("m", [3, 6]), ("n", [1, 2])]
        self.assertIs(is_closed(sheet, 6, good), True)
        self.assertIs(is_closed(sheet, 6, [("i", [1]), ("m", [3]), ("n", [1, 2])]), False)
        self.assertIs(is_closed(sheet, 6, [("i", [1]), ("m", [3, 6]), ("n", [1, 2, 3])]), True)
        self.assertIs(is_closed(sheet, 6, [("i", [1, 2]), ("m", [3, 6]), ("n", [1, 2])]), False)
        self.assertIs(is_closed(sheet, 6, [("i", [1, 2]), ("m", [3, 4, 5, 6]), ("n", [1, 2])]), True)

    def test_no_tables(self):
        good = [("p", [6, 10]), ("tree", [3, 7])]
        for value in ANY_VALUES + [
            tuple(good), [list(row) for row in good], good[::-1], good[:1], good + good[1:], [("p", (6, 10)), good[1]], [("p", [10, 6]), good[1]],
            [("p", [6, 6, 10]), good[1]], [("p", [6, 10, 11]), good[1]], [("p", [-1, 6, 10]), good[1]], [("p", [True, 6, 10]), good[1]],
            [("q", [6, 10]), good[1]], [("p", [6, 10], 0), good[1]], [(SubStr("p"), [6, 10]), good[1]], [SubTuple(good[0]), good[1]],
            SubList(good), [("p", SubList([6, 10])), good[1]], [("p", [6, SubInt(10)]), good[1]], [("p", [6, "10"]), good[1]], [("p", None), good[1]],
        ]:
            self.assertIs(is_closed(BOX, 10, value), False, repr(value)[:50])
        self.assertIs(is_closed(sheet=BOX, most=10, value=good), True)
        self.assertIs(is_closed(BOX, 10, [("p", list(range(11))), ("tree", list(range(11)))]), True)
        self.assertIs(is_closed(ENDLESS, 5, [("m", [])]), True)
        self.assertIs(is_closed(ENDLESS, 5, [("m", [3, 4, 5])]), True)
        self.assertIs(is_closed(ENDLESS, 5, [("m", [3])]), False)

    def test_without_words(self):
        for sheet in (NONE, ENDLESS):
            self.assertEqual([lengths(sheet, 60), length_table(sheet, 3)], [[], [("m", [])]])

    def test_errors_in_order(self):
        calls = [lambda sheet, most: lengths(sheet, most), lambda sheet, most: length_table(sheet, most),
                 lambda sheet, most: is_closed(sheet, most, [])]
        for call in calls:
            for value in ANY_VALUES:
                with self.assertRaises(InvalidSheet):
                    call(value, -1)
                with self.assertRaises(Faulty):
                    call(FAULTY, value)
                if not (type(value) is int and 0 <= value <= 60):
                    with self.assertRaises(InvalidCount):
                        call(TREE, value)
            for most in (61, -1, True, SubInt(3)):
                with self.assertRaises(InvalidCount):
                    call(TREE, most)
        with self.assertRaises(InvalidSheet):
            least_length(3)
        with self.assertRaises(Faulty):
            least_length(FAULTY)
        table = length_table(TREE, 9)
        self.assertIsNot(table, length_table(TREE, 9))
        self.assertIsNot(table[0][1], length_table(TREE, 9)[0][1])


if __name__ == "__main__":
    unittest.main()
