"""[19], [20]: bits read against the list of all words that the table of [14] gives alone."""

import random
import unittest

from tests import oracle
from tests.examples import ANY_VALUES, BOX, CODES, EVEN, TREE, SubInt, SubStr
from termsonwires.changes import inlined, lifted, renamed, unrolled
from termsonwires.errors import Faulty, InvalidBits, InvalidIndex, InvalidSheet, TooMany, Unfit
from termsonwires.faults import faults
from termsonwires.forms import part, places
from termsonwires.reading import can_follow, is_word, read, read_run, rest
from termsonwires.things import word_of

EMPTY = ("bits", "")
FAULTY = ("m", (("m", ("table", ((1, "0"), (2, "0")))),))
NONE = ("m", (("m", ("row", (("bits", "1"), ("table", ())))),))
ENDLESS = ("m", (("m", ("row", (("bits", "1"), ("ref", "m")))),))


def one(term, *entries):
    return ("m", tuple(sorted((("m", term),) + entries)))


def shown(answer):
    """Kinds count: 1 is not True."""
    return repr(answer)


def some_bits(chance, words):
    """Words with bits behind, cut words, words with a bit turned, and any bits."""
    found = set(oracle.all_bits(3))
    for word in chance.sample(words, min(25, len(words))):
        cut = chance.randint(0, len(word))
        found |= {word, word[:cut], word + oracle.random_bits(chance, 1, 3), word[:cut] + oracle.random_bits(chance, 1, 4)}
        if word:
            at = chance.randrange(len(word))
            found.add(word[:at] + "10"[int(word[at])] + word[at + 1:])
    return sorted(found)


class ReadingTest(unittest.TestCase):
    def test_examples(self):
        self.assertEqual([read(TREE, "100101011"), read(TREE, "1001"), rest(TREE, "1001")],
                         [("thing", ("node", (("leaf", 1), ("leaf", 2))), 7), ("more",), "000"])
        self.assertEqual([read(BOX, "00"), read(BOX, "0111"), read(BOX, "11111"), can_follow(BOX, "111"), rest(BOX, "1")],
                         [("dead", 2), ("dead", 4), ("dead", 5), ["1"], "111000000"])
        self.assertEqual([read(CODES, "1"), read(CODES, "100011"), read(EVEN, "100"), read_run(EVEN, "1011100")],
                         [("more",), ("thing", ("c", "a"), 6), ("dead", 3), ([2, 3], 6, ("more",))])

    def check(self, sheet, most, chance):
        found = oracle.words(sheet, most)
        things = {word: thing for thing, word in found.items()}
        self.assertEqual(len(things), len(found), sheet)
        words = sorted(things)
        for bits in some_bits(chance, words):
            self.check_bits(sheet, bits, things, most, chance)

    def check_bits(self, sheet, bits, things, most, chance):
        told = read(sheet, bits)
        begun = [word for word in things if bits.startswith(word)]
        longer = [word for word in things if word.startswith(bits)]
        self.assertLessEqual(len(begun), 1)
        if begun:
            self.assertEqual(shown(told), shown(("thing", things[begun[0]], len(begun[0]))), (sheet, bits))
        elif told == ("more",):
            self.check_rest(sheet, bits, longer, most)
        elif told[0] == "thing":
            self.assertGreater(told[2], most)
            self.assertEqual(word_of(sheet, told[1]), bits[:told[2]])
        else:
            self.assertEqual((told[0], longer), ("dead", []), (sheet, bits))
            self.check_death(sheet, bits, told[1])
        self.assertIs(is_word(sheet, bits), told[0] == "thing" and told[2] == len(bits))
        follow = can_follow(sheet, bits)
        self.assertEqual(follow, [bit for bit in "01" if self.has_rest(sheet, bits + bit)])
        for word in longer:
            self.assertTrue(word == bits or word[len(bits)] in follow)
        ahead = oracle.random_bits(chance, 0, 5)
        moved = told[:-1] + (told[-1] + len(ahead),) if len(told) > 1 else told
        self.assertEqual(shown(read(sheet, ahead + bits, len(ahead))), shown(moved))
        if told[0] != "more":
            self.assertEqual(shown(read(sheet, bits + "01", at=0)), shown(told))

    def has_rest(self, sheet, bits):
        try:
            return rest(sheet, bits) is not None
        except TooMany as error:
            self.assertEqual(error.count, 60)
            return True

    def check_rest(self, sheet, bits, longer, most):
        try:
            behind = rest(sheet, bits)
        except TooMany:
            self.assertEqual(longer, [])
            return
        word = bits + behind
        told = read(sheet, word)
        self.assertEqual((told[0], told[-1]), ("thing", len(word)), (sheet, bits, behind))
        self.assertEqual(word_of(sheet, told[1]), word)
        if longer:
            self.assertEqual(word, oracle.by_length(longer)[0], (sheet, bits))
        else:
            self.assertGreater(len(word), most)

    def check_death(self, sheet, bits, index):
        self.assertIsNone(rest(sheet, bits))
        self.assertEqual(read(sheet, bits[:index]), ("dead", index))
        if index > 0:
            self.assertEqual(read(sheet, bits[:index - 1]), ("more",))
            self.assertNotIn(bits[index - 1], can_follow(sheet, bits[:index - 1]))

    def test_against_all_words(self):
        chance = random.Random(11)
        for _ in range(450):
            sheet = oracle.random_sheet(chance, depth=4)
            if not faults(sheet):
                self.check(sheet, 9, chance)

    def test_rings_against_all_words(self):
        chance = random.Random(12)
        for _ in range(350):
            sheet = oracle.ringed_sheet(chance)
            if not faults(sheet):
                self.check(sheet, 9, chance)

    def test_chosen_sheets(self):
        chance = random.Random(13)
        tree, way = ("ref", "t"), lambda *rows: ("either", tuple(rows))
        rings = ("t", way(("l", "0", ("width", 1)), ("n", "1", ("row", (tree, tree)))))
        for sheet in [
            TREE, BOX, EVEN, CODES,
            one(("sized", ("width", 4), ("sized", ("width", 2), ("until", "1", ("bits", "00"))))),
            one(("sized", ("width", 3), ("row", (tree, ("sized", ("width", 2), tree)))), rings),
            one(("sized", ("ref", "n"), ("row", (tree, ("until", "10", ("table", (("a", "0"), ("b", "11"))))))), rings,
                ("n", ("table", ((5, "10"), (3, "0"), (9, "111"))))),
            one(("until", "11", ("row", (("bits", "0"), ("until", "0", ("bits", "10")))))),
            one(("until", "101", ("until", "0", ("bits", "11")))),
            one(("counted", ("ref", "n"), ("counted", ("ref", "n"), ("width", 1))), ("n", ("table", ((0, "0"), (2, "10"), (1, "11"))))),
            one(("counted", ("sized", ("width", 2), ("width", 2)), tree), rings),
            one(("checked", ((1, 2, "00"), (0, 1, "01"), (2, 0, "11")), ("until", "1", ("bits", "01")))),
            one(("sized", ("checked", ((0, 1, "0"), (1, 0, "1")), ("width", 3)), ("checked", ((0, 1, "1"), (1, 1, "0")), ("counted", ("width", 2), ("width", 1))))),
            one(("times", 3, ("times", 2, ("table", (("a", "0"), ("b", "10")))))), one(way(), rings), NONE, ENDLESS,
            one(("row", (tree, ("ref", "w"))), rings, ("w", ("width", 2))), one(("row", ())), one(("width", 0)),
            one(("sized", ("width", 5), ("times", 3, ("until", "1", tree))), ("t", way(("l", "00", EMPTY), ("n", "01", ("row", (tree, tree)))))),
        ]:
            self.assertEqual(faults(sheet), [], sheet)
            self.check(sheet, 10, chance)

    def test_dead_early(self):
        sheet = one(("sized", ("width", 3), ("sized", ("width", 2), ("until", "1", ("bits", "000")))))
        self.assertEqual(faults(sheet), [])
        self.assertEqual(read(sheet, "000"), ("dead", 2))
        self.assertEqual(read(sheet, "1"), ("dead", 1))
        self.assertEqual(read(sheet, "0110"), ("more",))
        self.assertEqual(read(sheet, "011011"), ("thing", (), 6))
        self.assertEqual(read(sheet, "010"), ("dead", 3))
        self.assertEqual(read(sheet, "01110"), ("dead", 4))
        self.assertEqual(can_follow(sheet, "011"), ["0"])
        self.assertEqual(read(NONE, "1"), ("dead", 0))
        self.assertEqual(read(NONE, "111", 2), ("dead", 2))
        self.assertEqual([read(ENDLESS, ""), rest(ENDLESS, ""), can_follow(ENDLESS, "1"), is_word(ENDLESS, "")], [("dead", 0), None, [], False])
        wordless = one(("counted", ("width", 2), ("table", ())))
        self.assertEqual([read(wordless, "00"), read(wordless, "01"), read(wordless, "1")], [("thing", (), 2), ("dead", 2), ("dead", 1)])

    def test_until_at_the_end_of_an_item(self):
        sheet = one(("until", "1000", ("until", "01", ("table", (("a", "11"), ("b", "00"))))))
        self.assertEqual(faults(sheet), [])
        self.assertEqual(can_follow(sheet, "1"), ["0", "1"])
        self.assertEqual(read(sheet, "10"), ("more",))
        self.assertEqual(read(sheet, "101"), ("dead", 3))
        self.assertEqual(read(sheet, "11011000"), ("thing", (("a",),), 8))

    def test_read_run(self):
        self.assertEqual(read_run(EVEN, ""), ([], 0, None))
        self.assertEqual(read_run(EVEN, "000101"), ([0, 2], 6, None))
        self.assertEqual(read_run(EVEN, "111000101", 3), ([0, 2], 9, None))
        self.assertEqual(read_run(EVEN, "000100"), ([0], 3, ("dead", 6)))
        self.assertEqual(read_run(EVEN, "0001", at=4), ([], 4, None))
        self.assertEqual(read_run(NONE, "01"), ([], 0, ("dead", 0)))
        self.assertEqual(read_run(NONE, ""), ([], 0, None))
        for sheet in (one(EMPTY), one(("row", ())), one(("width", 0)), one(("times", 0, ("width", 1)))):
            with self.assertRaises(Unfit):
                read_run(sheet, "0")
            self.assertEqual(read(sheet, "01", 1)[0::2], ("thing", 1))
        chance = random.Random(14)
        for sheet in (TREE, BOX, EVEN, CODES):
            found = sorted(oracle.words(sheet, 10).items(), key=lambda pair: pair[1])
            for _ in range(20):
                chosen = [chance.choice(found) for _ in range(chance.randint(0, 4))]
                bits = "".join(word for _, word in chosen)
                self.assertEqual(read_run(sheet, "01" + bits, 2), ([thing for thing, _ in chosen], len(bits) + 2, None))
        things = read_run(TREE, "000001")[0]
        self.assertEqual(things, [("leaf", 0), ("leaf", 1)])
        self.assertIsNot(things, read_run(TREE, "000001")[0])

    def test_rest_and_its_limit(self):
        for many, fits in [(60, True), (61, False)]:
            sheet = one(("row", (("bits", "1"), ("times", 1, ("bits", "0" * many)))))
            if fits:
                self.assertEqual(rest(sheet, "1"), "0" * 60)
            else:
                with self.assertRaises(TooMany) as caught:
                    rest(sheet, "1")
                self.assertEqual(caught.exception.count, 60)
            self.assertEqual(rest(sheet, "10"), "0" * (many - 1))
            self.assertIsNone(rest(sheet, "0"))
            self.assertEqual(can_follow(sheet, "1"), ["0"])
        long = one(("times", 8, ("times", 8, ("bits", "01" * 15))))
        self.assertEqual(read(long, "01" * 50), ("more",))
        with self.assertRaises(TooMany):
            rest(long, "01")
        self.assertIsNone(rest(long, "00"))
        self.assertEqual(read(long, "01" * 40 + "1"), ("dead", 81))
        order = one(("either", (("a", "11", EMPTY), ("b", "10", EMPTY), ("c", "0", ("width", 2)), ("d", "01", EMPTY))[:3]))
        self.assertEqual([rest(order, ""), rest(order, "1"), rest(order, "0"), rest(order, "11")], ["10", "0", "00", ""])

    def test_limits(self):
        long = one(("until", "1", ("table", (("a", "00"), ("b", "01")))))
        self.assertEqual(read(long, "01" * 54 + "1")[2], 109)
        self.assertEqual(read(long, "0" * 109), ("more",))
        flat = one(("times", 8, ("times", 8, ("width", 1))))
        self.assertEqual(read(flat, "10" * 40)[2], 64)
        chain = one(("either", (("n", "0", EMPTY), ("c", "1", ("row", (("row", (("row", (("ref", "m"),)),)),))))))
        told = read(chain, "1" * 59 + "0")
        self.assertEqual((told[0], told[2]), ("thing", 60))
        self.assertEqual(word_of(chain, told[1]), "1" * 59 + "0")
        self.assertEqual(read(chain, "1" * 60), ("more",))

    def test_there_and_back(self):
        for sheet in oracle.sample_sheets(15, 200) + [TREE, BOX, CODES, EVEN]:
            if faults(sheet):
                continue
            for thing, word in list(oracle.words(sheet, 8).items())[:15]:
                for behind in ("", "0", "110"):
                    self.assertEqual(shown(read(sheet, word_of(sheet, thing) + behind)), shown(("thing", thing, len(word))))

    def test_changed_sheets_read_the_same(self):
        chance = random.Random(16)
        for _ in range(60):
            sheet = oracle.ringed_sheet(chance, depth=3)
            if faults(sheet):
                continue
            samples = [oracle.random_bits(chance, 0, 8) for _ in range(8)]
            others = [lifted(sheet, place, "zz") for place in places(sheet)]
            others += [inlined(sheet, place) for place in places(sheet) if part(sheet, place)[0] == "ref"]
            others.append(renamed(sheet, ((sheet[0], "zz"),)))
            for bits in samples:
                told = read(sheet, bits)
                for other in others:
                    self.assertEqual(shown(read(other, bits)), shown(told))
                less = read(unrolled(sheet, 2), bits)
                if less[0] != "dead":
                    self.assertEqual(shown(less), shown(told))
                if told[0] == "dead":
                    self.assertTrue(less[0] == "dead" and less[1] <= told[1])

    def test_errors_in_order(self):
        for call in (read, is_word, can_follow, rest, read_run):
            for value in ANY_VALUES:
                with self.assertRaises(InvalidSheet):
                    call(value, value)
                if not (type(value) is str and value.strip("01") == ""):
                    with self.assertRaises(InvalidBits, msg=repr(value)[:40]):
                        call(TREE, value)
                with self.assertRaises(Faulty) as caught:
                    call(FAULTY, value)
                self.assertEqual(caught.exception.faults, [("m", (), "tags")])
            with self.assertRaises(InvalidBits):
                call(TREE, SubStr("01"))
        away = ("a", (("a", EMPTY), ("b", ("until", "1", ("bits", "1")))))
        with self.assertRaises(Faulty) as caught:
            read(away, "2", -1)
        self.assertEqual(caught.exception.faults, [("b", (), "mark")])
        for call in (read, read_run):
            for at in [-1, 4, True, None, "0", 10 ** 89, SubInt(1)]:
                with self.assertRaises(InvalidIndex):
                    call(one(EMPTY), "010", at)
            with self.assertRaises(InvalidBits):
                call(TREE, "012", 9)
        self.assertEqual(read(sheet=TREE, bits="010", at=3), ("more",))


if __name__ == "__main__":
    unittest.main()
