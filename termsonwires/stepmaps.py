"""The maps by which things follow one rewriting of a term."""

from termsonwires.faultrows import word_table
from termsonwires.nodes import Nodes
from termsonwires.prices import thing_of_word
from termsonwires.ruling import bits_runs, first_bits
from termsonwires.termparts import first_word_of, sheet_of_term

SAME = ("same",)
EMPTY = ("tuple", ())


def rule_map(pattern, template):
    """The map of one rule."""
    return ("rules", ((pattern, template),))


def only_thing(part):
    return thing_of_word(word_table(Nodes(sheet_of_term(part.term))), first_word_of(part))


def map_of_alone(part):
    return ("table", ((only_thing(part), ()),))


def map_of_void(part):
    return ("table", ())


def holes_from(first, many):
    return tuple([("any", first + k) for k in range(many)])


def map_of_open(part):
    pattern = []
    template = []
    for inner in part.parts:
        many = len(inner.parts) if inner.term[0] == "row" else 1
        holes = holes_from(len(template), many)
        template.extend(holes)
        pattern.append(("tuple", holes) if inner.term[0] == "row" else holes[0])
    return rule_map(("tuple", tuple(pattern)), ("tuple", tuple(template)))


def map_of_join(part):
    pattern = []
    template = []
    many = 0
    for run in bits_runs(part.parts):
        if len(run) > 1:
            pattern.extend([EMPTY for _ in run])
            template.append(EMPTY)
        else:
            pattern.append(("any", many))
            template.append(("any", many))
            many += 1
    return rule_map(("tuple", tuple(pattern)), ("tuple", tuple(template)))


def map_of_empty(part):
    pattern = []
    template = []
    for inner in part.parts:
        if inner.term == ("bits", ""):
            pattern.append(EMPTY)
        else:
            pattern.append(("any", len(template)))
            template.append(("any", len(template)))
    return rule_map(("tuple", tuple(pattern)), ("tuple", tuple(template)))


def map_of_unwrap(part):
    return ("unwrap",)


def map_of_way(part):
    label = part.term[1][0][0]
    return rule_map(("tuple", (("atom", label), ("any", 0))), ("tuple", (EMPTY, ("any", 0))))


def map_of_same(part):
    return SAME


def map_of_ahead(part):
    return rule_map(("any", 0), ("tuple", (EMPTY, ("any", 0))))


def map_of_fixed(part):
    return rule_map(("any", 0), ("tuple", (("any", 0), EMPTY)))


def map_of_tagged(inner):
    """For the thing of one way."""
    if first_bits(inner) == "" or inner.term[0] != "row":
        return SAME
    holes = holes_from(0, len(inner.parts) - 1)
    return rule_map(("tuple", (EMPTY, *holes)), ("tuple", holes))


def map_of_tag(part):
    return ways_map(part, [map_of_tagged(inner) for inner in part.parts])


def ways_map(part, inner_maps):
    return ("ways", tuple([(way[0], way[0], inner) for way, inner in zip(part.term[1], inner_maps)]))


MAPS = {
    "ahead": map_of_ahead,
    "alone": map_of_alone,
    "drop": map_of_same,
    "empty": map_of_empty,
    "fixed": map_of_fixed,
    "join": map_of_join,
    "listed": map_of_same,
    "machine": map_of_same,
    "number": map_of_ahead,
    "once": map_of_unwrap,
    "open": map_of_open,
    "order": map_of_same,
    "single": map_of_unwrap,
    "sure": map_of_ahead,
    "tag": map_of_tag,
    "void": map_of_void,
    "way": map_of_way,
    "whole": map_of_same,
}


def map_around(part, k, inner):
    """The map of the things of the part, by that of the part k of it."""
    word = part.term[0]
    if word in ("sized", "checked"):
        return inner
    if word in ("times", "counted", "until"):
        return ("each", inner)
    maps = [SAME] * len(part.parts)
    maps[k] = inner
    return ways_map(part, maps) if word == "either" else ("row", tuple(maps))


def map_at(part, path, rule):
    """The map of the rewriting of the part at the outer path by the rule."""
    if path == ():
        making = MAPS[rule]
        return making(part)
    return map_around(part, path[0], map_at(part.parts[path[0]], path[1:], rule))
