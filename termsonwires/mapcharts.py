"""The charts of maps, by tokens."""

from termsonwires.chartforms import scanned_chart
from termsonwires.composing import Composer, need_few, need_few_rules
from termsonwires.flatforms import flat_thing, numbered, with_holes


def any_holes(many):
    return [("any", k) for k in range(many)]


def tuple_of(parts):
    """The form of a tuple of these forms."""
    tokens = [("tuple", len(parts))]
    for part in parts:
        tokens.extend(part)
    return tokens


def atom_of(atom):
    return [("atom", atom)]


def chart_of_table(mapping):
    return [(flat_thing(one), flat_thing(other)) for one, other in mapping[1]]


def side_by_side_rules(charts):
    """For each choice of a rule of each chart the list of them."""
    if [] in charts:
        return []
    found = [[]]
    for chart in charts:
        found = [[*rules, rule] for rules in found for rule in chart]
        need_few(found)
    return found


def rule_of_row(rules):
    """One rule of some that stand in the parts of a tuple."""
    many = 0
    lefts = []
    rights = []
    for left, right in rules:
        numbers = {token[1]: many + token[1] for token in left if token[0] in ("any", "each")}
        many += len(numbers)
        lefts.append(with_holes(left, numbers))
        rights.append(with_holes(right, numbers))
    return numbered(tuple_of(lefts), tuple_of(rights))


def chart_of_row(mapping):
    charts = [map_chart(inner) for inner in mapping[1]]
    return [rule_of_row(rules) for rules in side_by_side_rules(charts)]


def chart_of_each(mapping):
    chart = map_chart(mapping[1])
    form = [("each", 0, chart)] if chart else [("tuple", 0)]
    return [(form, form)]


def chart_of_ways(mapping):
    found = []
    for label, new, inner in mapping[1]:
        for left, right in map_chart(inner):
            found.append((tuple_of([atom_of(label), left]), tuple_of([atom_of(new), right])))
    return found


def chart_of_turn(mapping):
    holes = any_holes(len(mapping[1]))
    return [(tuple_of([[hole] for hole in holes]), tuple_of([[holes[k]] for k in mapping[1]]))]


def chart_of_label(mapping):
    return [([("any", 0)], tuple_of([atom_of(mapping[1]), [("any", 0)]]))]


def chart_of_wrap(mapping):
    return [([("any", 0)], tuple_of([[("any", 0)]]))]


def chart_of_same(mapping):
    return [([("any", 0)], [("any", 0)])]


def chart_of_put(mapping):
    _, many, at, thing = mapping
    parts = [[hole] for hole in any_holes(many)]
    return [(tuple_of(parts), tuple_of([*parts[:at], flat_thing(thing), *parts[at:]]))]


def chart_of_pack(mapping):
    """The holes are numbered as the parts stand."""
    parts = []
    many = 0
    for size in mapping[1]:
        taken = 1 if size is None else size
        row = [[("any", many + k)] for k in range(taken)]
        parts.append(row[0] if size is None else tuple_of(row))
        many += taken
    return [(tuple_of([[hole] for hole in any_holes(many)]), tuple_of(parts))]


def chart_of_after(mapping):
    first = map_chart(mapping[1])
    return Composer().composed(first, map_chart(mapping[2]))


def chart_of_rules(mapping):
    return scanned_chart(mapping[1])


def led_back(chart):
    """The chart of one rule without charts, its sides exchanged; both have the holes in one order."""
    return [(right, left) for left, right in chart]


CHARTS = {
    "same": chart_of_same,
    "table": chart_of_table,
    "row": chart_of_row,
    "each": chart_of_each,
    "ways": chart_of_ways,
    "turn": chart_of_turn,
    "label": chart_of_label,
    "wrap": chart_of_wrap,
    "put": chart_of_put,
    "pack": chart_of_pack,
    "after": chart_of_after,
    "rules": chart_of_rules,
}
LED_BACK = {"unlabel": "label", "unwrap": "wrap", "drop": "put", "unpack": "pack"}


def map_chart(mapping):
    """The chart of the map, by tokens."""
    word = mapping[0]
    charting = CHARTS[LED_BACK.get(word, word)]
    chart = charting(mapping)
    need_few_rules(chart)
    return led_back(chart) if word in LED_BACK else chart
