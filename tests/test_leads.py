"""[46], [47]: tellers side by side, against lists of things and words and against [46] word by word."""

import itertools
import unittest

from tests import oracle
from tests.examples import ANY_VALUES, TREE, SubInt, SubList, SubStr, SubTuple
from tests.plainrows import bare, flat_sheets, one
from termsonwires.acceptors import teller_bulk
from termsonwires.changes import lifted
from termsonwires.errors import Endless, Faulty, InvalidSheet, InvalidTeller, TooMany
from termsonwires.faults import faults
from termsonwires.leads import is_lead_table, keeping, lead_table, lost, misread
from termsonwires.reading import read
from termsonwires.tellers import known, teller_of

NO = ("table", ())
FAULTY = one(("table", ((1, "0"), (2, "0"))))
ENDLESS = one(("row", (("bits", "1"), ("ref", "m"))))
FAULTY_RING = one(("row", (("table", ((1, "0"), (2, "0"))), ("ref", "m"))))
THREE = one(("table", ((1, "0"), (12, "10"), (13, "11"))))
FOUR = one(("table", ((1, "0"), (12, "10"), (13, "110"), (22, "111"))))


def wide(bits):
    """A sheet of the teller bulk 398 and so many more."""
    return one(("row", (("width", 8), ("width", 7), ("width", 4), ("bits", "0" + "1" * bits))))


def bent_term(chance, term):
    """The term with one leaf bent: rows more, atoms or labels changed, bits turned."""
    kind = term[0]
    if kind == "table":
        rows = list(term[1])
        if rows and chance.random() < 0.6:
            k = chance.randrange(len(rows))
            rows[k] = (chance.choice([7, 77, "z", -1]), rows[k][1])
        elif rows:
            rows.pop(chance.randrange(len(rows)))
        else:
            rows.append((5, "0"))
        return ("table", tuple(rows)) if len({row[0] for row in rows}) == len(rows) else term
    if kind == "width":
        return chance.choice([("width", term[1] + 1), ("table", tuple((k, format(k, "b").zfill(term[1]) if term[1] else "") for k in range(2 ** term[1])))])
    if kind == "either":
        ways = list(term[1])
        if ways:
            k = chance.randrange(len(ways))
            ways[k] = chance.choice([(ways[k][0] + "q", ways[k][1], ways[k][2]), (ways[k][0], ways[k][1], bent_term(chance, ways[k][2]))])
        return ("either", tuple(ways))
    if kind == "row" and term[1]:
        k = chance.randrange(len(term[1]))
        return ("row", term[1][:k] + (bent_term(chance, term[1][k]),) + term[1][k + 1:])
    if kind in ("counted", "sized", "times", "until", "checked"):
        return (kind, term[1], bent_term(chance, term[2]))
    return term


def versions(seed, many):
    """Pairs of flat sheets without faults, the second a bent first one or any other one."""
    chance, sheets = flat_sheets(seed, many)
    small = [sheet for sheet in sheets if teller_bulk(sheet) <= 60]
    found = []
    for sheet in small:
        other = (sheet[0], tuple((name, bent_term(chance, term)) for name, term in sheet[1]))
        if chance.random() < 0.2:
            other = chance.choice(small)
        if not faults(other) and teller_bulk(other) <= 100:
            found.append((sheet, other))
    return chance, found


def things_by_word(sheet, most):
    return {word: thing for thing, word in oracle.words(sheet, most).items()}


def joint_pairs(rows, other):
    """The joint pairs by the words of [46]."""
    found, waiting = {(0, 0)}, [(0, 0)]
    while waiting:
        p, q = waiting.pop()
        for bit in (0, 1):
            pair = (rows[p][bit], other[q][bit])
            if pair not in found:
                found.add(pair)
                waiting.append(pair)
    ends = {(p, q) for p, q in found if rows[p][2] == other[q][2] == "whole"}
    while True:
        more = {(p, q) for p, q in found if any((rows[p][bit], other[q][bit]) in ends for bit in (0, 1))} | ends
        if more == ends:
            return ends
        ends = more


def plain_lead(one_, other):
    while one_ and other and one_[0] == other[0]:
        one_, other = one_[1:], other[1:]
    return (one_, other) if "" in (one_, other) else None


def plainly_lead_table(teller, other, value):
    rows, other_rows = bare(teller), bare(other)
    joint = joint_pairs(rows, other_rows)
    if type(value) is not list or any(type(row) is not tuple or len(row) != 4 for row in value):
        return False
    for p, q, a, b in value:
        if not (type(p) is int and type(q) is int and type(a) is str and type(b) is str and "" in (a, b)):
            return False
    if [row[:2] for row in value] != sorted(joint):
        return False
    leads = {(p, q): (a, b) for p, q, a, b in value}
    if (0, 0) in joint and leads[0, 0] != plain_lead(teller[0], other[0]):
        return False
    for (p, q), (a, b) in leads.items():
        if rows[p][2] == other_rows[q][2] == "whole" and (a, b) != ("", ""):
            return False
        for bit in (0, 1):
            (r, said), (s, other_said) = teller[1][p][bit], other[1][q][bit]
            if (r, s) in joint and plain_lead(a + said, b + other_said) != leads[r, s]:
                return False
    return True


class LeadsTest(unittest.TestCase):
    def test_examples(self):
        teller, other = teller_of(THREE), teller_of(FOUR)
        self.assertEqual([teller[0], other[0]], ["1", ""])
        self.assertEqual(lead_table(teller, other), [(0, 0, "1", ""), (1, 1, "", ""), (2, 2, "1", "")])
        self.assertIs(is_lead_table(teller, other, lead_table(teller, other)), True)
        self.assertEqual([lost(THREE, FOUR), lost(FOUR, THREE)], [("11", 13, ("more",)), ("110", 13, ("thing", 13, 2))])

    def check_misread(self, sheet, other, most):
        teller, other_teller = teller_of(sheet), teller_of(other)
        told = misread(teller, other_teller)
        mine, theirs = things_by_word(sheet, most), things_by_word(other, most)
        unlike = [word for word in mine if word in theirs and repr(mine[word]) != repr(theirs[word])]
        if told is None or len(told) <= most:
            self.assertEqual(told, oracle.by_length(unlike)[0] if unlike else None, (sheet, other))
        else:
            self.assertEqual(unlike, [])
        if told is not None:
            self.assertLess(len(told), 3 * len(teller[1]) * len(other_teller[1]))
            self.assertNotEqual(known(teller, told), known(other_teller, told))
        table = lead_table(teller, other_teller)
        self.assertIs(table is None, told is not None)
        self.assertEqual(lead_table(other_teller, teller), table and [(p, q, a, b) for q, p, b, a in sorted(table, key=lambda row: (row[1], row[0]))])
        if table is not None:
            self.assertTrue(plainly_lead_table(teller, other_teller, table), (sheet, other, table))
            self.assertIs(is_lead_table(teller, other_teller, table), True)
        return teller, other_teller, table

    def test_against_lists_of_things(self):
        chance, found = versions(130, 420)
        kinds = set()
        for sheet, other in found:
            teller, other_teller, table = self.check_misread(sheet, other, 8)
            kinds.add(None if table is None else bool(table))
            if table is not None:
                self.check_bent(chance, teller, other_teller, table)
        self.assertEqual(kinds, {None, True, False})

    def check_bent(self, chance, teller, other, table):
        values = [table[::-1], table + table[:1], table[:-1], tuple(table), [list(row) for row in table]]
        for k in range(min(len(table), 4)):
            p, q, a, b = table[k]
            for row in [(p, q, b, a), (p, q, a + "1", b), (p, q, a, b + "1"), (p, q, "1", "1"), (q, p, a, b), (p, q, "", ""), (p, q, a), (p, q + 1, a, b)]:
                values.append(table[:k] + [row] + table[k + 1:])
            values.append(table[:k] + table[k + 1:])
        for value in values:
            self.assertIs(is_lead_table(teller, other, value), plainly_lead_table(teller, other, value), (teller, other, value))

    def test_no_table_where_a_word_is_misread(self):
        teller, other = teller_of(one(("width", 1))), teller_of(one(("table", ((0, "0"), (2, "1")))))
        self.assertEqual([misread(teller, other), lead_table(teller, other)], ["1", None])
        for a, b in itertools.product(["", "0", "1", "2"], repeat=2):
            for value in ([], [(0, 0, a, b)], [(0, 0, a, b), (1, 1, "", "")]):
                self.assertIs(is_lead_table(teller, other, value), False)

    def test_no_common_word(self):
        teller, other = teller_of(one(("bits", "00"))), teller_of(one(("bits", "01")))
        none = teller_of(one(NO))
        for pair in [(teller, other), (none, other), (other, none), (none, none)]:
            self.assertEqual([misread(*pair), lead_table(*pair)], [None, []])
            self.assertEqual([is_lead_table(*pair, []), is_lead_table(*pair, [(0, 0, "", "")])], [True, False])

    def test_of_a_teller_and_itself(self):
        for sheet in (THREE, FOUR, one(("bits", "")), one(("until", "1", ("bits", "0")))):
            teller = teller_of(sheet)
            alive = [state for state, row in enumerate(bare(teller)) if row[2] != "dead"]
            self.assertEqual(lead_table(teller, teller), [(state, state, "", "") for state in alive])
            self.assertIsNone(misread(teller, teller))

    def test_misread_deep_in_loops(self):
        item = lambda atom, last: ("table", ((atom, "00"), (last, "01")))
        plain, other = (one(("until", "1", item("a", last))) for last in ("ab", "abab"))
        self.check_misread(plain, other, 9)
        self.assertEqual(misread(teller_of(plain), teller_of(other)), "011")
        counted = one(("counted", ("width", 3), ("table", (("a", "0"), ("b", "10")))))
        self.check_misread(counted, one(("counted", ("width", 3), ("table", (("a", "0"), ("c", "10"))))), 9)
        swapped = one(("either", (("b", "0", ("width", 2)), ("a", "1", ("width", 2)))))
        straight = one(("either", (("b", "0", ("width", 2)), ("a", "1", ("table", ((0, "00"), (1, "01"), (2, "10"), (5, "11")))))))
        self.assertEqual(misread(teller_of(swapped), teller_of(straight)), "111")
        doubled = one(("table", ((11, "0"), (22, "10"))))
        self.assertEqual(misread(teller_of(one(("table", ((1, "0"), (2, "10"))))), teller_of(doubled)), "0")
        self.assertEqual(lost(one(("table", ((1, "0"), (2, "10")))), doubled), ("0", 1, ("thing", 11, 1)))
        late = one(("until", "11", ("table", ((1, "0"), (11, "10")))))
        later = one(("until", "11", ("table", ((11, "10"), (1, "0")))))
        self.assertIsNone(misread(teller_of(late), teller_of(later)))
        shifted = one(("until", "11", ("table", ((11, "0"), (1, "10")))))
        self.check_misread(late, shifted, 9)

    def test_other_values(self):
        teller, other = teller_of(THREE), teller_of(FOUR)
        good = lead_table(teller, other)
        for value in ANY_VALUES + [
            SubList(good), [SubTuple(good[0])] + good[1:], [(0, 0, SubStr("1"), "")] + good[1:], [(False, 0, "1", "")] + good[1:], [(0, SubInt(0), "1", "")] + good[1:],
            good[:1] + [(1, True, "", "")] + good[2:], [(0, 0, "1", None)] + good[1:], [(0, 0, 1, "")] + good[1:], [(0, 0, "1", SubStr(""))] + good[1:], good + [(3, 3, "", "")], [(0.0, 0, "1", "")] + good[1:],
        ]:
            self.assertIs(is_lead_table(teller, other, value), False, repr(value)[:60])
        self.assertIs(is_lead_table(teller=teller, other_teller=other, value=list(good)), True)

    def test_errors(self):
        good = teller_of(THREE)
        for value in ANY_VALUES + [("", []), [good[0], good[1]], ("2", good[1][:3])]:
            for call in (misread, lead_table, lambda teller, other_teller: is_lead_table(teller, other_teller, [])):
                with self.assertRaises(InvalidTeller):
                    call(teller=value, other_teller=good)
                with self.assertRaises(InvalidTeller):
                    call(teller=good, other_teller=value)


class LostTest(unittest.TestCase):
    def check(self, sheet, other, most):
        told = lost(sheet, other)
        mine = things_by_word(sheet, most)
        gone = [word for word in mine if repr(read(other, word)) != repr(("thing", mine[word], len(word)))]
        if told is None or len(told[0]) > most:
            self.assertEqual(gone, [], (sheet, other))
        else:
            word = oracle.by_length(gone)[0]
            self.assertEqual(repr(told), repr((word, mine[word], read(other, word))), (sheet, other))
        if told is not None:
            self.assertEqual(repr(read(sheet, told[0])), repr(("thing", told[1], len(told[0]))))
            self.assertEqual(repr(told[2]), repr(read(other, told[0])))
        return told

    def test_against_lists_of_things(self):
        _, found = versions(131, 420)
        whats = set()
        for sheet, other in found:
            told, back = self.check(sheet, other, 8), self.check(other, sheet, 8)
            whats.add(told and told[2][0])
            self.assertIs(told is None and back is None, teller_of(sheet) == teller_of(other))
            self.assertIsNone(lost(sheet, sheet))
        self.assertEqual(whats, {None, "thing", "more", "dead"})

    def test_by_name(self):
        two = one(("table", ((0, "00"), (1, "01"))))
        for other, what in [(("table", ((0, "0"),)), ("thing", 0, 1)), (("table", ((0, "000"),)), ("more",)), (NO, ("dead", 0)), (("bits", "01"), ("dead", 2)),
                            (("table", (("0", "00"), (1, "01"))), ("thing", "0", 2)), (("row", (("width", 2),)), ("thing", (0,), 2))]:
            self.assertEqual(lost(two, one(other)), ("00", 0, what))
        self.assertEqual(lost(two, one(("width", 2))), None)
        self.assertEqual(lost(one(("width", 2)), two), ("10", 2, ("dead", 1)))
        self.assertEqual([lost(one(NO), two), lost(one(("bits", "")), one(("width", 0)))], [None, ("", (), ("thing", 0, 0))])
        self.assertEqual(lost(two, one(("table", ((0, "00"), (2, "01"), (1, "1"))))), ("01", 1, ("thing", 2, 2)))
        self.assertEqual(lost(sheet=two, other_sheet=lifted(two, ("m", ()), "x")), None)

    def test_more_ways_and_rows(self):
        chance, sheets = flat_sheets(132, 400)
        kept = 0
        for sheet in sheets:
            if teller_bulk(sheet) > 100:
                continue
            more = (sheet[0], tuple((name, self.grown(chance, term)) for name, term in sheet[1]))
            if more != sheet and not faults(more) and teller_bulk(more) <= 400:
                self.assertIsNone(lost(sheet, more), (sheet, more))
                kept += 1
        self.assertGreater(kept, 20)

    def grown(self, chance, term):
        kind = term[0]
        if kind == "table":
            free = [bits for bits in oracle.all_bits(3) if not any(bits.startswith(row[1]) or row[1].startswith(bits) for row in term[1])]
            return ("table", term[1] + ((99, free[0]),)) if free and bool(term[1]) else term
        if kind == "either":
            ways = tuple((label, tag, self.grown(chance, part)) for label, tag, part in term[1])
            free = [bits for bits in oracle.all_bits(3) if not any(bits.startswith(way[1]) or way[1].startswith(bits) for way in ways)]
            return ("either", ways + (("more", free[0], ("width", 1)),)) if free and ways else ("either", ways)
        if kind == "row":
            return ("row", tuple(self.grown(chance, part) for part in term[1]))
        return (kind, term[1], self.grown(chance, term[2])) if kind in ("times", "until", "checked", "counted", "sized") else term

    def test_long_words(self):
        bits = "10" * 150
        sheet, other = (one(("row", (("bits", bits), ("table", ((1, "0"), (atom, "1")))))) for atom in (2, 3))
        self.assertEqual(lost(sheet, other), (bits + "1", ((), 2), ("thing", ((), 3), 301)))
        loops = [one(("until", "1", ("bits", "0" * many))) for many in (22, 23)]
        self.assertEqual(lost(loops[0], loops[1]), ("0" * 22 + "1", ((),), ("dead", 23)))

    def test_errors_in_order(self):
        good = THREE
        for value in ANY_VALUES:
            for bad in (good, FAULTY, TREE, value):
                with self.assertRaises(InvalidSheet):
                    lost(value, bad)
                with self.assertRaises(InvalidSheet):
                    lost(bad, value)
        for sheet, other, error in [
            (FAULTY, good, Faulty), (good, FAULTY, Faulty), (ENDLESS, FAULTY, Faulty), (FAULTY, ENDLESS, Faulty), (FAULTY_RING, good, Faulty), (ENDLESS, good, Endless),
            (good, ENDLESS, Endless), (wide(3), ENDLESS, Endless), (ENDLESS, wide(3), Endless), (wide(3), good, TooMany), (good, wide(3), TooMany),
        ]:
            with self.assertRaises(error):
                lost(sheet, other)
        with self.assertRaises(Faulty) as caught:
            lost(FAULTY, one(("either", (("a", "0", NO), ("b", "01", NO)))))
        self.assertEqual(caught.exception.faults, [("m", (), "tags")])
        with self.assertRaises(Endless) as caught:
            lost(TREE, ENDLESS)
        self.assertEqual(caught.exception.name, "tree")
        for sheet, other, count in [(wide(3), wide(4), 401), (wide(4), wide(3), 402), (good, wide(5), 403)]:
            with self.assertRaises(TooMany) as caught:
                lost(sheet, other)
            self.assertEqual(caught.exception.count, count)
        self.assertIsNone(lost(wide(2), wide(2)))


class KeepingTest(unittest.TestCase):
    def test_lists(self):
        more = one(("table", ((1, "0"), (12, "10"), (13, "110"))))
        self.assertEqual([keeping([]), keeping([THREE]), keeping([THREE, THREE]), keeping([more, FOUR]), keeping(versions=[FOUR, more, THREE, FOUR])],
                         [[], [], [(0, 1), (1, 0)], [(0, 1)], [(0, 3), (1, 0), (1, 3), (3, 0)]])

    def test_against_lost(self):
        chance, found = versions(133, 200)
        sheets = [sheet for pair in found for sheet in pair]
        for _ in range(12):
            row = [chance.choice(sheets) for _ in range(3)]
            row += list(chance.choice(found))
            expected = [(i, j) for i, j in itertools.permutations(range(5), 2) if lost(row[i], row[j]) is None]
            self.assertEqual(keeping(row), expected)
            for (i, j), (k, n) in itertools.product(expected, repeat=2):
                if j == k and i != n:
                    self.assertIn((i, n), expected)

    def test_errors_in_order(self):
        good = THREE
        for value in ANY_VALUES + [(THREE, FOUR), THREE, SubList([THREE])]:
            if value == [] and type(value) is list:
                continue
            with self.assertRaises(InvalidSheet):
                keeping(value)
        for value in ANY_VALUES:
            for row in ([value], [good, value], [value, good], [FAULTY, value], [ENDLESS, wide(3), value]):
                with self.assertRaises(InvalidSheet):
                    keeping(row)
        other = one(("either", (("a", "0", NO), ("b", "01", NO))), ("k", ("table", ((1, ""), (2, "")))))
        for row, error, field, expected in [
            ([FAULTY], Faulty, "faults", [("m", (), "tags")]), ([good, ENDLESS, wide(3), other, FAULTY], Faulty, "faults", [("k", (), "tags"), ("m", (), "tags")]),
            ([ENDLESS], Endless, "name", "m"), ([wide(3), good, TREE, ENDLESS], Endless, "name", "tree"),
            ([wide(3)], TooMany, "count", 401), ([good, wide(4), wide(3)], TooMany, "count", 402),
        ]:
            with self.assertRaises(error) as caught:
                keeping(row)
            self.assertEqual(getattr(caught.exception, field), expected)
        row = [good, FOUR]
        keeping(row)
        self.assertEqual(row, [good, FOUR])


if __name__ == "__main__":
    unittest.main()
