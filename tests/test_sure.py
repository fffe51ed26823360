"""[68]: forms of things, what is sure of a thing while it is read, and samples that show it."""

import random
import unittest

from tests import oracle, plaincodes
from tests.examples import ANY_VALUES, BOX, CODES, TREE, nested
from tests.plaincodes import EXAMPLE, PARITY
from tests.test_feeding import BIT, LIST, SIZED, UNSOUND, held_behind, sized_codes, sound_codes
from termsonwires.codes import code_of
from termsonwires.errors import InvalidCode, InvalidHeld, InvalidThing, UnsoundCode
from termsonwires.feeding import begun, feed
from termsonwires.sure import least_form, samples, sure, takes

PUT = ("put", 0)
ANY = ("any",)


def same(one, other):
    return type(one) is type(other) and (one == other if type(one) is not tuple else len(one) == len(other) and all(map(same, one, other)))


def plain_form(things):
    """The least form by the words of [68]."""
    if all(same(thing, things[0]) for thing in things):
        return ("is", things[0])
    if not all(type(thing) is tuple for thing in things):
        return ANY
    lengths = {len(thing) for thing in things}
    parts = tuple(plain_form([thing[k] for thing in things]) for k in range(min(lengths)))
    return ("tuple" if len(lengths) == 1 else "begins", parts)


def plain_takes(form, thing):
    if form[0] == "is":
        return same(form[1], thing)
    if form[0] == "any":
        return True
    if type(thing) is not tuple or len(thing) < len(form[1]) or (form[0] == "tuple" and len(thing) != len(form[1])):
        return False
    return all(plain_takes(part, inner) for part, inner in zip(form[1], thing))


def random_thing(chance, depth):
    if depth == 0 or chance.random() < 0.3:
        return chance.choice([0, 1, "0", "1", "", (), "a"])
    return tuple(random_thing(chance, depth - 1) for _ in range(chance.choice([0, 1, 2, 2, 3])))


def bent_thing(chance, thing):
    """A thing near to this one."""
    if type(thing) is not tuple or not thing or chance.random() < 0.2:
        return random_thing(chance, 1)
    k = chance.randrange(len(thing))
    if chance.random() < 0.3:
        return thing[:k] + chance.choice([(), (0, thing[k])]) + thing[k + 1:]
    return thing[:k] + (bent_thing(chance, thing[k]),) + thing[k + 1:]


class FormTest(unittest.TestCase):
    def test_least_forms(self):
        """L6, L7."""
        chance = random.Random(68)
        for _ in range(500):
            thing = random_thing(chance, 3)
            things = [thing] + [bent_thing(chance, thing) for _ in range(chance.randint(0, 3))]
            form = least_form(things)
            self.assertEqual(repr(form), repr(plain_form(things)))
            for other in things + [bent_thing(chance, thing) for _ in range(3)] + [random_thing(chance, 2)]:
                self.assertIs(takes(form, other), plain_takes(form, other), (form, other))
            self.assertTrue(all(takes(form, other) for other in things))
            more = things + [bent_thing(chance, thing)]
            wide = least_form(more)
            self.assertTrue(all(takes(wide, other) for other in things))

    def test_named(self):
        for things, form in (
                ([1], ("is", 1)), ([()], ("is", ())), ([(), ()], ("is", ())), ([(1, 2), (1, 3)], ("tuple", (("is", 1), ANY))), ([(1, 2), (1, 3, 4), (1,)], ("begins", (("is", 1),))), ([(), (1,)], ("begins", ())),
                ([1, "1"], ANY), ([0, ()], ANY), ([(1,), ("1",)], ("tuple", (ANY,))), (["a", "a"], ("is", "a")), ([((1, 2), 3), ((1,), 3)], ("tuple", (("begins", (("is", 1),)), ("is", 3)))), ([("x", (1, 2)), ("x", (1, 2)), ("x", (1, 3))], ("tuple", (("is", "x"), ("tuple", (("is", 1), ANY)))))):
            self.assertEqual(repr(least_form(things)), repr(form))

    def test_takes_each_form(self):
        deep = nested(129, 1)
        rows = [
            (("is", 1), [1], [2, "1", (), (1,)]), (("is", "1"), ["1"], [1, ""]), (("is", (1, ())), [(1, ())], [(1,), (1, (), ()), ("1", ()), (1, 0), ()]), (("is", deep), [deep], [nested(128, 1), nested(129, 2), nested(129)]),
            (ANY, [1, "", (), deep], []), (("tuple", (ANY, ("is", 1))), [(0, 1), (deep[0][0], 1), ((), 1)], [(0, 2), (0,), (0, 1, 1), 1, "ab", ()]), (("begins", ()), [(), (1,), deep], [1, "", "a"]),
            (("begins", (("is", "m"), ANY)), [("m", 1), ("m", (), 3)], [("m",), (), ("n", 1), "m1"]), (("tuple", (("begins", (("is", 1),)), ANY)), [((1, 2), 0), ((1,), ())], [((), 0), (1, 0), ((2,), 0)])]
        for form, good, bad in rows:
            for thing in good:
                self.assertIs(takes(form, thing), True, (form, thing))
            for thing in bad:
                self.assertIs(takes(form, thing), False, (form, thing))
            for thing in (True, False, None, [], [1], (True,), ([],), nested(130), 10 ** 40):
                with self.assertRaises(InvalidThing):
                    takes(form, thing)

    def test_deep_forms(self):
        form = least_form([nested(300, 1), nested(300, 2)])
        for _ in range(300):
            self.assertEqual((form[0], len(form[1])), ("tuple", 1))
            form = form[1][0]
        self.assertEqual(form, ANY)
        self.assertEqual(least_form([nested(300, 1), nested(300, 1)])[0], "is")


class SureTest(unittest.TestCase):
    def judge(self, code, held):
        """That the samples show the form, and that the endings that can be listed fit it."""
        form, bits, things = sure(code, held), samples(code, held), []
        for ending in bits:
            told = feed(code, held, ending)[0]
            self.assertEqual((told[0], told[2]), ("thing", len(ending)), (code, held, ending))
            if things:
                self.assertFalse(plain_takes(plain_form(things), told[1]), (code, held, bits))
            things.append(told[1])
        self.assertEqual(repr(plain_form(things)), repr(form))
        ends = plaincodes.endings(code, held, 9, 200)
        self.assertTrue(all(plain_takes(form, thing) for _, thing in ends))
        return form, ends

    def test_random_codes(self):
        """L6 to L9."""
        chance, codes = sound_codes(92, 90)
        kinds = {}
        for code, bits in [(code, oracle.random_bits(chance, 0, 5)) for code in codes] + sized_codes(92, 60)[1]:
            held = held_behind(code, bits)
            if held is None:
                continue
            form, ends = self.judge(code, held)
            kinds[form[0]] = kinds.get(form[0], 0) + 1
            for bit in "01":
                after = feed(code, held, bit)
                if after[1] is not None:
                    for ending in samples(code, after[1]):
                        self.assertTrue(plain_takes(form, feed(code, after[1], ending)[0][1]))
                elif after[0][0] == "thing":
                    self.assertTrue(plain_takes(form, after[0][1]))
        self.assertEqual(sorted(kinds), ["any", "begins", "is", "tuple"])

    def test_all_endings_listed(self):
        """Where all endings are listed, their least form is told."""
        small = (("one", (("00", (("put", (1, 2)),)), ("01", (("tuple", (("put", 1), ("call", 1))),)), ("1", (("label", "x", ("call", 1)),)))), BIT)
        for bits, form in (("", ("tuple", (ANY, ANY))), ("0", ("tuple", (("is", 1), ANY))), ("01", ("tuple", (("is", 1), ANY))), ("1", ("tuple", (("is", "x"), ANY)))):
            told, ends = self.judge(small, held_behind(small, bits))
            self.assertEqual(told, form)
            self.assertEqual(plain_form([thing for _, thing in ends]), form)

    def test_sized_frames_hang_together(self):
        """In a frame the lengths of its parts are not free."""
        held = begun(SIZED)[1]
        self.assertEqual(self.judge(SIZED, held)[0], ("tuple", (ANY, ANY)))
        self.assertEqual(self.judge(SIZED, held_behind(SIZED, "11"))[0], ("tuple", (("is", 1), ANY)))
        pair = (("one", (("", (("sized", 4, ("tuple", (("tuple", (("call", 2),)), ("tuple", (("call", 2),))))),)),)), BIT, LIST)
        self.assertEqual(self.judge(pair, begun(pair)[1])[0], ("tuple", (("begins", ()), ("begins", ()))))
        self.assertEqual(self.judge(pair, held_behind(pair, "1"))[0], ("tuple", (("tuple", (ANY,)), ("is", ()))))
        self.assertEqual(self.judge(pair, held_behind(pair, "0"))[0], ("tuple", (("is", ()), ("tuple", (ANY,)))))
        inner = (("one", (("", (("sized", 6, ("tuple", (("sized", 3, ("tuple", (("call", 2),))), ("tuple", (("call", 2),))))),)),)), BIT, LIST)
        self.assertEqual(self.judge(inner, begun(inner)[1])[0], ("tuple", (("tuple", (ANY,)), ("tuple", (ANY,)))))

    def test_rules_that_call_one_another(self):
        """What a rule gives may grow late, and through any number of rules."""
        ring = (("one", (("1", (("tuple", (("call", 3),)),)), ("0", (("put", ()),)))), BIT, ("one", (("", (("call", 1),)),)), ("one", (("0", (("call", 2),)), ("1", (("label", "x", ("call", 0)),)))))
        self.assertEqual(self.judge(ring, begun(ring)[1])[0], ("begins", ()))
        self.assertEqual(self.judge(ring, held_behind(ring, "10"))[0], ("tuple", (ANY,)))
        back = (("one", (("1", (("tuple", (("call", 2), ("put", "p"))),)),)), BIT, ("one", (("", (("label", "y", ("call", 1)),)),)))
        self.assertEqual(self.judge(back, begun(back)[1])[0], ("tuple", (("tuple", (("is", "y"), ANY)), ("is", "p"))))

    def test_sized_acts_of_rules(self):
        """Sized acts of rules that are called inside of sized frames."""
        pair = ("tuple", (("call", 2), ("call", 2)))
        rules = (("one", (("1", (("sized", 2, pair),)), ("01", (("sized", 1, ("call", 2)),)))), BIT, ("one", (("1", (("sized", 2, pair),)), ("0", (("label", "z", ("sized", 2, pair)),)))))
        code = (("one", (("", (("sized", 6, ("tuple", (("call", 1), ("call", 3)))),)),)),) + rules
        for bits in ("", "0", "1", "11", "111", "0101", "1110"):
            if held_behind(code, bits) is not None:
                self.judge(code, held_behind(code, bits))
        self.assertEqual(sure(code, begun(code)[1]), ("tuple", (ANY, ("tuple", (ANY, ANY)))))
        free = (("one", (("1", (("tuple", (("call", 1), ("call", 3))),)), ("0", (PUT,)))),) + rules
        for bits in ("", "1", "11", "101"):
            self.judge(free, held_behind(free, bits))

    def test_checks(self):
        code = (("one", (("", (("checked", PARITY, 0, ("sized", 3, ("checked", PARITY, 1, ("tuple", (("call", 1), ("call", 1)))))),)),)), BIT)
        for bits in ("", "0", "1", "01", "011", "010"):
            if held_behind(code, bits) is not None:
                self.judge(code, held_behind(code, bits))
        self.assertEqual(sure(code, held_behind(code, "01")), ("is", (0, 1)))
        code = (("one", (("", (("tuple", (("label", "c", ("checked", ((0, 0, "10"),), 0, ("call", 1))), ("call", 1), ("call", 1))),)),)), BIT)
        for bits, form in (("", ("tuple", (("tuple", (("is", "c"), ANY)), ANY, ANY))), ("1", ("tuple", (("is", ("c", 1)), ANY, ANY))), ("01", ("tuple", (("is", ("c", 0)), ANY, ANY))), ("0101", ("tuple", (("is", ("c", 0)), ("is", 1), ANY)))):
            self.assertEqual(self.judge(code, held_behind(code, bits))[0], form)

    def test_checks_being_read(self):
        code = (("one", (("", (("tuple", (("checked", ((0, 0, "10"),), 0, ("call", 1)), ("call", 1))),)),)), BIT)
        for bits, form in (("", ("tuple", (ANY, ANY))), ("1", ("tuple", (("is", 1), ANY))), ("11", ("tuple", (("is", 1), ANY)))):
            self.assertEqual(self.judge(code, held_behind(code, bits))[0], form)
        framed = (("one", (("", (("sized", 4, code[0][1][0][1][0]),)),)), BIT)
        for bits in ("", "1", "11", "110"):
            self.judge(framed, held_behind(framed, bits))

    def test_deep_things(self):
        code = code_of(TREE)
        for many in (10, 200, 400):
            held = held_behind(code, "1" * many)
            form = sure(code, held)
            for _ in range(many):
                self.assertEqual((form[0], len(form[1]), form[1][0]), ("tuple", 2, ("is", "node")))
                self.assertEqual(form[1][1][1][1], ("tuple", (ANY, ANY)))
                form = form[1][1][1][0]
            self.assertEqual(form, ("tuple", (ANY, ANY)))
            bits = samples(code, held)
            self.assertEqual(len(set(bits)), len(bits))
            self.assertGreater(len(bits), many)
            self.assertEqual(feed(code, held, bits[-1])[0][0], "thing")
        chain = (("one", (("0", (PUT,)), ("1", (("tuple", (("call", 0),)),)))),)
        self.assertEqual(sure(chain, begun(chain)[1]), ANY)

    def test_named_sheets(self):
        for sheet in (BOX, CODES, TREE):
            code = code_of(sheet)
            for bits in ("", "0", "1", "10", "011", "110"):
                held = held_behind(code, bits)
                if held is not None:
                    self.judge(code, held)

    def test_errors_in_their_order(self):
        for bad in ANY_VALUES:
            for call in (sure, samples):
                with self.assertRaises(InvalidCode):
                    call(bad, bad)
                with self.assertRaises(UnsoundCode):
                    call(UNSOUND, bad)
                with self.assertRaises(InvalidHeld):
                    call(EXAMPLE, bad)

    def test_examples(self):
        held = begun(EXAMPLE)[1]
        self.assertEqual([sure(EXAMPLE, held), sure(EXAMPLE, feed(EXAMPLE, held, "11")[1])], [("tuple", (ANY, ("begins", ()))), ("tuple", (("is", "m"), ("tuple", (("is", 1), ("tuple", (ANY, ("begins", ())))))))])


if __name__ == "__main__":
    unittest.main()
