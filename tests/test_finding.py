"""[36] to [42]: places found again, judged by search over bits and trains with the words of the document alone."""

import itertools
import random
import unittest

from tests import oracle
from tests.examples import ANY_VALUES, SubInt, SubList, SubStr, SubTuple
from tests.plainrows import flat_sheets, one, some_acceptors, words_of
from termsonwires.acceptors import acceptor_of, bulk, is_full
from termsonwires.automata import least_acceptor
from termsonwires.errors import (
    InvalidAcceptor, InvalidBits, InvalidDamage, InvalidIndex, InvalidState, TooMany, Unfit)
from termsonwires.finding import (
    finder, heard, is_finder, is_rank_table, is_rut, is_slipping, is_standoff, least_finder, lock, outside, ranks, rut,
    settling, slip, slipping, standoff, struck)

NONE = [(0, 0, "dead")]
EMPTY = [(1, 1, "whole"), (1, 1, "dead")]
UNTIL = [(1, 2, "open"), (0, 0, "open"), (3, 3, "whole"), (3, 3, "dead")]
TURNS = [(0, 1, "open"), (2, 1, "open"), (3, 3, "whole"), (3, 3, "dead")]
WIDTH = [(1, 1, "open"), (2, 2, "open"), (3, 3, "whole"), (3, 3, "dead")]
DAMAGES = ["flip", "lose", "put 0", "put 1"]


def going(rows, state, bits):
    for bit in bits:
        row = rows[0] if rows[state][2] == "whole" else rows[state]
        state = row[int(bit)]
    return state


def kind(rows, state):
    return rows[state][2]


def opens(rows):
    return [k for k in range(len(rows)) if rows[k][2] == "open"]


def plain(rows, state):
    return 0 if kind(rows, state) == "whole" else state


def alike(rows, p, q):
    return plain(rows, p) == plain(rows, q)


def plainly_heard(rows, bits):
    return sorted({state for state in (going(rows, p, bits) for p in opens(rows)) if kind(rows, state) != "dead"})


def settles(rows, p, q, bits):
    r, s = going(rows, p, bits), going(rows, q, bits)
    dead = [kind(rows, r) == "dead", kind(rows, s) == "dead"]
    return p != q and (any(dead) and not all(dead) or not any(dead) and alike(rows, r, s))


def pairs_of(rows):
    return list(itertools.combinations(opens(rows), 2))


def kept_apart(rows, p, q):
    """By each bit the tuple of two alive states that are not alike, with 0 for the whole one, the lesser first."""
    found = []
    for bit in "01":
        r, s = going(rows, p, bit), going(rows, q, bit)
        if "dead" not in (kind(rows, r), kind(rows, s)) and not alike(rows, r, s):
            found.append(tuple(sorted((plain(rows, r), plain(rows, s)))))
    return found


def plainly_standoff(rows, value):
    if not value or list(value) != sorted(set(value)) or not set(value) <= set(pairs_of(rows)):
        return False
    for p, q in value:
        for bit in "01":
            r, s = going(rows, p, bit), going(rows, q, bit)
            dead = [kind(rows, r) == "dead", kind(rows, s) == "dead"]
            if all(dead):
                continue
            if any(dead) or alike(rows, r, s) or tuple(sorted((plain(rows, r), plain(rows, s)))) not in value:
                return False
    return True


def damaged(bits, damage, index):
    """The damaged bits, how many bits stand ahead of those behind the damage in both, and those behind."""
    if damage == "flip":
        return bits[:index] + "10"[int(bits[index])], index + 1
    if damage == "lose":
        return bits[:index], index + 1
    return bits[:index] + damage[-1], index


def plainly_struck(rows, bits, damage, index):
    ahead, first = damaged(bits, damage, index)
    right, other = going(rows, 0, bits[:first]), going(rows, 0, ahead)
    for n in range(len(bits) - first + 1):
        r, s = going(rows, right, bits[first:first + n]), going(rows, other, bits[first:first + n])
        if alike(rows, r, s):
            return ("right", n)
        if kind(rows, s) == "dead":
            return ("dead", n)
    return ("open", len(bits) - first)


def begins_train(rows, bits):
    return kind(rows, going(rows, 0, bits)) != "dead"


def indexes(bits, damage):
    return range(len(bits) + damage.startswith("put"))


def plainly_slipping(rows, damage, value):
    if type(value) is not tuple or len(value) != 3 or type(value[0]) is not str or set(value[0]) - set("01"):
        return False
    bits, index, start = value
    if type(index) is not int or type(start) is not int or index not in indexes(bits, damage) or not begins_train(rows, bits):
        return False
    if plainly_struck(rows, bits, damage, index)[0] != "open":
        return False
    ahead, first = damaged(bits, damage, index)
    if start == len(bits):
        return True
    if not first <= start < len(bits):
        return False
    both = lambda end: [plain(rows, going(rows, 0, bits[:end])), plain(rows, going(rows, 0, ahead + bits[first:end]))]
    return both(start) == both(len(bits))


def trained(seed, many, most):
    chance, found = some_acceptors(seed, many, most)
    return chance, [rows for rows in found if opens(rows)]


class HeardTest(unittest.TestCase):
    def test_examples(self):
        self.assertEqual([ranks(TURNS), least_finder(TURNS), [slip(TURNS, damage) for damage in DAMAGES]], [[(0, 1, 1)], "10", [1] * 4])
        self.assertEqual([standoff(WIDTH), slip(WIDTH, "flip"), slip(WIDTH, "lose")], [[(0, 1)], 0, None])
        self.assertIs(is_rut(WIDTH, (0, 1, "00")), True)
        self.assertEqual([heard(UNTIL, "1"), least_finder(UNTIL)], [[0, 2], "11"])
        self.assertIs(is_rut(UNTIL, (0, 1, "00")), True)
        self.assertEqual(acceptor_of(one(("row", (("until", "1", ("bits", "0")), ("until", "0", ("bits", "1")))))), TURNS)
        self.assertEqual(acceptor_of(one(("width", 2))), WIDTH)

    def test_heard(self):
        chance, found = trained(100, 50, 6)
        for rows in found:
            self.assertEqual(heard(rows, ""), opens(rows))
            for bits in oracle.all_bits(4) + [oracle.random_bits(chance, 5, 40)]:
                self.assertEqual(heard(rows, bits), plainly_heard(rows, bits), (rows, bits))
                self.assertIs(is_finder(rows, bits), [kind(rows, state) for state in plainly_heard(rows, bits)] == ["whole"])

    def test_inside_of_trains(self):
        chance, found = trained(101, 40, 5)
        for rows in found:
            words = words_of(rows, 6)
            if not words:
                continue
            for _ in range(10):
                train = "".join(chance.choice(words) for _ in range(4))
                start = chance.randint(0, len(train))
                end = chance.randint(start, min(len(train), start + 6))
                state = going(rows, 0, train[:end])
                self.assertTrue(any(alike(rows, state, other) for other in heard(rows, train[start:end])))
                if is_finder(rows, train[start:end]):
                    self.assertEqual(kind(rows, state), "whole")

    def test_settling(self):
        _, found = trained(102, 50, 5)
        for rows in found:
            k = len(opens(rows))
            for p, q in itertools.product(opens(rows), repeat=2):
                told = settling(rows, p, q)
                most = k * (k - 1) // 2 if told is None else len(told)
                if most <= 10:
                    expected = [bits for bits in oracle.all_bits(most) if settles(rows, p, q, bits)]
                    self.assertEqual(told, oracle.by_length(expected)[0] if expected else None, (rows, p, q))
                if p == q:
                    self.assertIsNone(told)

    def test_standoff(self):
        _, found = trained(103, 60, 4)
        for rows in found:
            pairs = pairs_of(rows)
            told = standoff(rows)
            self.assertEqual(told, [(p, q) for p, q in pairs if settling(rows, p, q) is None])
            if len(pairs) <= 6:
                union = set()
                for many in range(len(pairs) + 1):
                    for value in itertools.combinations(pairs, many):
                        expected = plainly_standoff(rows, value)
                        self.assertIs(is_standoff(rows, list(value)), expected, (rows, value))
                        union |= set(value) if expected else set()
                self.assertEqual(told, sorted(union))
            self.assertIs(is_standoff(rows, told), told != [])
            self.assertIs(is_standoff(rows, told[::-1]), len(told) == 1)

    def test_no_standoffs(self):
        for value in ANY_VALUES + [[], ((0, 1),), [[0, 1]], [(1, 0)], [(0, 0)], [(0, 2)], [(0, 1, 1)], [(0, True)], [(False, 1)], [(0, SubInt(1))],
                                   SubList([(0, 1)]), [SubTuple((0, 1))], [(0, 1), (0, 1)], [(0, 1), (1, 0)], [(0, 1), (2, 3)], [(0, 9)], [(-1, 0)], [(0, "1")], [(0, None)], [None]]:
            self.assertIs(is_standoff(WIDTH, value), False, repr(value)[:60])
        self.assertIs(is_standoff(acceptor=WIDTH, value=[(0, 1)]), True)

    def test_finder(self):
        _, found = trained(104, 80, 7)
        for rows in found:
            k = len(opens(rows))
            told = finder(rows)
            self.assertIs(told is None, standoff(rows) != [])
            if told is not None:
                self.assertIs(is_finder(rows, told), True, rows)
                self.assertLessEqual(len(told), (k - 1) * k * (k - 1) // 2 + k)
                self.assertGreater(len(told), 0)
                for word in words_of(rows, 5)[:3]:
                    self.assertIs(is_finder(rows, told + word), True)
                for bits in oracle.all_bits(2):
                    if heard(rows, bits + told):
                        self.assertIs(is_finder(rows, bits + told), True)
            self.check_least(rows, told)

    def check_least(self, rows, told):
        least, dead = least_finder(rows), outside(rows)
        self.assertIs(least is None, told is None)
        self.assertIs(dead is None, is_full(rows))
        for bits, fits in ((least, lambda some: [kind(rows, p) for p in plainly_heard(rows, some)] == ["whole"]),
                           (dead, lambda some: plainly_heard(rows, some) == [])):
            if bits is not None:
                self.assertTrue(fits(bits))
                if len(bits) <= 9:
                    self.assertEqual(bits, next(some for some in oracle.all_bits(len(bits)) if fits(some)))
            else:
                self.assertFalse(any(fits(some) for some in oracle.all_bits(6)))
        if dead is not None:
            self.assertLessEqual(len(dead), len(opens(rows)) ** 2)

    def test_more_than_ten_open_states(self):
        ten, eleven = acceptor_of(one(("bits", "0000000001"))), acceptor_of(one(("bits", "00000000001")))
        self.assertEqual([least_finder(ten), outside(ten)], ["1", "11"])
        for call in (least_finder, outside):
            with self.assertRaises(TooMany) as caught:
                call(eleven)
            self.assertEqual(caught.exception.count, 11)
        self.assertIs(is_finder(eleven, finder(eleven)), True)
        large = acceptor_of(one(("until", "000000", ("table", tuple((k, "1" + format(5 * k + 2, "06b")) for k in range(9))))))
        self.assertGreater(len(opens(large)), 10)
        self.assertIs(finder(large) is None, standoff(large) != [])

    def test_one_open_state(self):
        comma = [(0, 1, "open"), (2, 2, "whole"), (2, 2, "dead")]
        self.assertEqual([standoff(comma), finder(comma), least_finder(comma), outside(comma), lock(comma), ranks(comma), rut(comma)], [[], "1", "1", None, 0, [], None])
        self.assertEqual([is_rank_table(comma, []), is_standoff(comma, []), settling(comma, 0, 0)], [True, False, None])
        self.assertEqual([(slip(comma, damage), slipping(comma, damage)) for damage in DAMAGES], [(0, None)] * 4)


class LockTest(unittest.TestCase):
    def test_lock_ranks_and_ruts(self):
        _, found = trained(105, 80, 5)
        for rows in found:
            k = len(opens(rows))
            table, told = ranks(rows), lock(rows)
            self.assertEqual([(p, q) for p, q, _ in table], pairs_of(rows))
            self.assertIs(is_rank_table(rows, table), True)
            self.assertIs(told is None, rut(rows) is not None)
            heard_apart = lambda d: any(not alike(rows, p, q) for bits in oracle.all_bits(d) if len(bits) == d
                                        for p, q in itertools.combinations(plainly_heard(rows, bits), 2))
            if told is None:
                self.assertIs(is_rut(rows, rut(rows)), True)
                self.assertTrue(heard_apart(min(8, k * (k - 1) // 2 + 1)))
            else:
                self.assertEqual(told, max([rank for _, _, rank in table], default=0))
                self.assertLessEqual(told, k * (k - 1) // 2)
                self.assertIsNotNone(finder(rows))
                self.assertFalse(heard_apart(told))
                self.assertTrue(told == 0 or heard_apart(told - 1))
            if k > 1 and is_full(rows) and len(words_of(rows, 12)) == len(words_of(rows, 11)):
                self.assertIsNone(told)

    def plainly_ranked(self, rows, value):
        told = {(p, q): rank for p, q, rank in value}
        return all(told[pair] is None or told[other] is not None and told[other] < told[pair]
                   for pair in pairs_of(rows) for other in kept_apart(rows, *pair))

    def test_rank_tables(self):
        chance, found = trained(106, 60, 4)
        for rows in found:
            table = ranks(rows)
            for k, (p, q, rank) in enumerate(table):
                for other in {None, 1, 2, 3, (rank or 1) + 1, max((rank or 2) - 1, 1), 10 ** 89}:
                    bent = table[:k] + [(p, q, other)] + table[k + 1:]
                    holds = self.plainly_ranked(rows, bent)
                    self.assertIs(is_rank_table(rows, bent), holds, (rows, bent))
                    if rank is None and other is not None or rank is not None and other is not None and other < rank:
                        self.assertFalse(holds)
            raised = [(p, q, None if rank is None else rank + 5) for p, q, rank in table]
            self.assertIs(is_rank_table(rows, raised), self.plainly_ranked(rows, raised))
            self.assertIs(is_rank_table(rows, [(p, q, None) for p, q, _ in table]), True)

    def test_other_values(self):
        good = ranks(TURNS)
        self.assertIs(is_rank_table(acceptor=TURNS, value=[(0, 1, 7)]), True)
        for value in ANY_VALUES + [
            [], good + good, tuple(good), SubList(good), [[0, 1, 1]], [SubTuple(good[0])], [(0, 1)], [(0, 1, 1, 1)], [(0, 1, 0)], [(0, 1, True)],
            [(0, 1, SubInt(1))], [(False, 1, 1)], [(0, True, 1)], [(1, 0, 1)], [(0, 2, 1)], [(0, 1, "1")], [(0, 1, 1.0)], [(0, 1, -1)],
        ]:
            self.assertIs(is_rank_table(TURNS, value), False, repr(value)[:60])
        self.assertIs(is_rut(acceptor=WIDTH, value=(0, 1, "01")), True)
        for value in ANY_VALUES + [
            (0, 1, ""), (0, 1, "0"), (1, 0, "00"), (0, 0, "00"), (0, 2, "00"), (0, 1, "0000000"), [0, 1, "00"], (0, 1), (0, 1, "00", 0), (False, 1, "00"),
            (0, True, "00"), (0, SubInt(1), "00"), (0, 1, SubStr("00")), SubTuple((0, 1, "00")), (0, 1, "0a"), (0, 1, 0), (0, 1, None), (0, 3, "00"), (0, 9, "00"),
        ]:
            self.assertIs(is_rut(WIDTH, value), False, repr(value)[:60])

    def test_ruts_against_going_on(self):
        _, found = trained(107, 30, 4)
        for rows in found:
            for p, q in itertools.product(range(len(rows)), repeat=2):
                for bits in oracle.all_bits(4):
                    expected = p < q and kind(rows, p) == kind(rows, q) == "open" and bits != "" and all(
                        kind(rows, going(rows, s, bits)) != "dead" and plain(rows, going(rows, s, bits)) == s for s in (p, q))
                    self.assertIs(is_rut(rows, (p, q, bits)), expected, (rows, p, q, bits))


class DamageTest(unittest.TestCase):
    def test_struck(self):
        _, found = trained(108, 25, 5)
        for rows in found:
            for bits in oracle.all_bits(5):
                for damage in DAMAGES:
                    for index in indexes(bits, damage):
                        if begins_train(rows, bits):
                            self.assertEqual(struck(rows, bits, damage, index), plainly_struck(rows, bits, damage, index), (rows, bits, damage, index))
                        else:
                            with self.assertRaises(Unfit):
                                struck(rows, bits, damage, index)

    def test_struck_by_name(self):
        self.assertEqual(struck(WIDTH, "0000", "flip", 0), ("right", 0))
        self.assertEqual([struck(WIDTH, "0000", "lose", 0), struck(WIDTH, "0000", "lose", 3), struck(WIDTH, "0000", "put 1", 4), struck(WIDTH, "", "put 0", 0)],
                         [("open", 3), ("open", 0), ("open", 0), ("open", 0)])
        self.assertEqual([struck(UNTIL, "11", "flip", 0), struck(UNTIL, "00", "lose", 1), struck(UNTIL, "0100", "put 1", 1)], [("right", 1), ("open", 0), ("right", 1)])
        comma = acceptor_of(one(("table", (("a", "00"), ("b", "11")))))
        self.assertEqual([struck(comma, "0011", "flip", 0), struck(comma, "0011", "flip", 1), struck(comma, "00", "put 1", 0)], [("dead", 1), ("dead", 0), ("dead", 1)])
        self.assertEqual(struck(acceptor=WIDTH, bits="01" * 200, damage="lose", index=399), ("open", 0))

    def test_slip_against_many_trains(self):
        _, found = trained(109, 60, 3)
        for rows in found:
            k = len(opens(rows))
            most = k + 2 + k * (k - 1) // 2
            if most > 9:
                continue
            trains = [bits for bits in oracle.all_bits(most) if begins_train(rows, bits)]
            for damage in DAMAGES:
                answers = [plainly_struck(rows, bits, damage, index) for bits in trains for index in indexes(bits, damage)]
                greatest = max([answer[1] for answer in answers], default=0)
                told = slip(rows, damage)
                if told is None:
                    self.assertGreater(greatest, k * (k - 1) // 2)
                else:
                    self.assertEqual(told, greatest, (rows, damage))

    def test_slipping(self):
        _, found = trained(110, 80, 6)
        sheets = [acceptor_of(sheet) for sheet in flat_sheets(111, 150)[1] if bulk(sheet) <= 22]
        for rows in found + [rows for rows in sheets if opens(rows)]:
            slips = {damage: slip(rows, damage) for damage in DAMAGES}
            above = lambda number: 10 ** 9 if number is None else number
            self.assertEqual(above(slips["lose"]), max(above(slips["put 0"]), above(slips["put 1"])), rows)
            self.assertTrue(all(above(number) <= above(lock(rows)) for number in slips.values()))
            for damage in DAMAGES:
                value = slipping(rows, damage)
                self.assertIs(value is None, slips[damage] == 0, (rows, damage))
                if value is not None:
                    self.assertTrue(plainly_slipping(rows, damage, value), (rows, damage, value))
                    self.assertIs(is_slipping(rows, damage, value), True)
                    bits, index, start = value
                    behind = len(bits) - damaged(bits, damage, index)[1]
                    if slips[damage] is None:
                        self.assertLess(start, len(bits))
                    else:
                        self.assertEqual((start, behind), (len(bits), slips[damage] - 1))

    def test_is_slipping(self):
        chance, found = trained(112, 25, 4)
        for rows in found:
            for damage in DAMAGES:
                for bits in oracle.all_bits(5):
                    index, start = chance.randint(-1, len(bits) + 1), chance.randint(-1, len(bits) + 1)
                    for value in [(bits, index, start), (bits, index, len(bits)), (bits, 0, start)]:
                        self.assertIs(is_slipping(rows, damage, value), plainly_slipping(rows, damage, value), (rows, damage, value))
        bits, index, start = slipping(WIDTH, "lose")
        for value in ANY_VALUES + [
            [bits, index, start], (bits, index), (bits, index, start, 0), (SubStr(bits), index, start), (bits, SubInt(index), start), (bits, index, SubInt(start)),
            (bits, False, start), (bits, index, True), SubTuple((bits, index, start)), ("0a0", 0, 3), (bits, index, 10 ** 80), (None, 0, 0), (bits, None, None),
        ]:
            self.assertIs(is_slipping(WIDTH, "lose", value), False, repr(value)[:60])
        self.assertIs(is_slipping(acceptor=WIDTH, damage="lose", value=("000", 0, 3)), True)
        self.assertIs(is_slipping(WIDTH, "flip", ("00", 0, 2)), False)
        self.assertIs(is_slipping(TURNS, "put 0", ("0", 1, 1)), struck(TURNS, "0", "put 0", 1)[0] == "open")

    def test_limits(self):
        chance = random.Random(113)
        for many in (22, 22, 22):
            loose = [((k + 1) % (many + 1), chance.randrange(many + 2), "open") for k in range(many)]
            rows = least_acceptor(loose + [(many + 1, many + 1, "whole"), (many + 1, many + 1, "dead")])
            told = finder(rows)
            self.assertIs(told is None, standoff(rows) != [])
            for damage in DAMAGES:
                value = slipping(rows, damage)
                self.assertTrue(value is None or plainly_slipping(rows, damage, value))
            self.assertIs(lock(rows) is None, rut(rows) is not None)
            self.assertIs(is_rank_table(rows, ranks(rows)), True)


class ErrorsTest(unittest.TestCase):
    def calls(self):
        return [
            lambda rows, rest: heard(rows, rest), lambda rows, rest: settling(rows, rest, rest), lambda rows, rest: standoff(rows),
            lambda rows, rest: is_standoff(rows, rest), lambda rows, rest: is_finder(rows, rest), lambda rows, rest: finder(rows),
            lambda rows, rest: least_finder(rows), lambda rows, rest: outside(rows), lambda rows, rest: lock(rows), lambda rows, rest: ranks(rows),
            lambda rows, rest: rut(rows), lambda rows, rest: is_rank_table(rows, rest), lambda rows, rest: is_rut(rows, rest),
            lambda rows, rest: struck(rows, rest, rest, rest), lambda rows, rest: slip(rows, rest), lambda rows, rest: slipping(rows, rest),
            lambda rows, rest: is_slipping(rows, rest, rest),
        ]

    def test_acceptors(self):
        for call in self.calls():
            for value in ANY_VALUES + [tuple(UNTIL), UNTIL[::-1]]:
                with self.assertRaises(InvalidAcceptor):
                    call(value, None)

    def test_unfit_behind_all_parameters(self):
        for rows in (NONE, EMPTY):
            for call in (standoff, finder, least_finder, outside, lock, ranks, rut, lambda rows: is_standoff(rows, []), lambda rows: is_rank_table(rows, []),
                         lambda rows: is_rut(rows, None), lambda rows: heard(rows, ""), lambda rows: is_finder(rows, "0"), lambda rows: slip(rows, "flip"),
                         lambda rows: slipping(rows, "put 0"), lambda rows: is_slipping(rows, "lose", None), lambda rows: struck(rows, "", "put 1", 0),
                         lambda rows: struck(rows, "0", "flip", 0)):
                with self.assertRaises(Unfit):
                    call(rows)
            with self.assertRaises(InvalidBits):
                heard(rows, 1)
            with self.assertRaises(InvalidBits):
                is_finder(rows, 1)
            with self.assertRaises(InvalidState):
                settling(rows, 0, 0)
            for call in (slip, slipping, lambda rows, damage: is_slipping(rows, damage, None)):
                with self.assertRaises(InvalidDamage):
                    call(rows, "loss")
            with self.assertRaises(InvalidIndex):
                struck(rows, "", "flip", 0)

    def test_other_parameters(self):
        for value in ANY_VALUES + [2, 3, 4, -1, SubInt(0)]:
            if not (type(value) is int and 0 <= value < 2):
                for other in (None, 0):
                    with self.assertRaises(InvalidState):
                        settling(UNTIL, value, other)
                with self.assertRaises(InvalidState):
                    settling(acceptor=UNTIL, open_state=0, other_open_state=value)
        for value in ANY_VALUES + ["put", "put 2", "put0", "Flip", " flip", SubStr("flip"), "put 10"]:
            if not (type(value) is str and set(value) <= set("01")):
                for call in (heard, is_finder):
                    with self.assertRaises(InvalidBits):
                        call(acceptor=UNTIL, bits=value)
                with self.assertRaises(InvalidBits):
                    struck(UNTIL, value, None, None)
            for call in (slip, slipping, lambda acceptor, damage: is_slipping(acceptor, damage, None), lambda acceptor, damage: struck(acceptor, "0", damage, None)):
                with self.assertRaises(InvalidDamage):
                    call(acceptor=UNTIL, damage=value)
        for damage in DAMAGES:
            most = 2 if damage.startswith("put") else 1
            for value in ANY_VALUES + [-1, 2, 3, SubInt(0)]:
                if not (type(value) is int and 0 <= value <= most):
                    with self.assertRaises(InvalidIndex):
                        struck(UNTIL, "00", damage, value)
            struck(UNTIL, "00", damage, most)
        dead = acceptor_of(one(("bits", "01")))
        with self.assertRaises(InvalidIndex):
            struck(dead, "1", "flip", 1)
        with self.assertRaises(Unfit):
            struck(dead, "1", "flip", 0)
        self.assertEqual(struck(dead, "01", "flip", 0), ("dead", 0))


if __name__ == "__main__":
    unittest.main()
