"""The sheets of the document's examples, and values that are of no kind that functions ask for."""

from termsonwires import errors
from termsonwires.bench import Bench
from termsonwires.console import Console

TREE = ("tree", (
    ("tree", ("either", (("leaf", "0", ("width", 2)), ("node", "1", ("row", (("ref", "tree"), ("ref", "tree"))))))),))
EVEN = ("c", (("c", ("checked", ((0, 1, "0"), (1, 0, "1")), ("width", 2))),))
BOX = ("p", (("p", ("sized", ("width", 3), ("ref", "tree"))),) + TREE[1])
CODES = ("u", (("u", ("until", "11", ("table", (("a", "00"), ("b", "01"), ("c", "10"))))),))
PAIR = ("a", (("a", ("row", (("ref", "b"), ("width", 1)))), ("b", ("bits", "01")), ("c", ("ref", "b"))))


class SubInt(int):
    pass


class SubStr(str):
    pass


class SubTuple(tuple):
    pass


class SubList(list):
    pass


def nested(depth, inner=()):
    value = inner
    for _ in range(depth):
        value = (value,)
    return value


def nested_list(depth):
    value = []
    for _ in range(depth):
        value = [value]
    return value


BENCH = Bench((("width", 2), (("a", "", EVEN),)))
ANY_VALUES = [
    0, 1, -1, 10 ** 89, -(10 ** 89), True, False, None, "", "a", "root a\n", (), [], ((),), [[]], ("bits",), ("bits", 0),
    (None, None), ("a", ()), ("a", (("a", ("ref", "a"), 1),)), nested(139), nested_list(139), tuple(range(9000)),
    list(range(9000)), errors.InvalidSheet("x"), errors.TooMany(1),
    SubTuple(), SubStr("a"), SubInt(1), SubList(), nested(139, "x"), ("row", nested(138)),
    Console(), BENCH, (BENCH,), [BENCH], (BENCH, BENCH), ("put", BENCH), (((BENCH, BENCH), BENCH), BENCH), ("bits", BENCH), (BENCH, ()),
]
