"""What maps and charts give for things; None where they do not fit.

Maps are made ready first: a table is a dict by the texts of the ones, a chart is told by tokens.
"""

from termsonwires.chartforms import scanned_chart
from termsonwires.flatforms import end_of, filled, flat_thing, parts_of_form, thing_built
from termsonwires.kinds import is_tuple, is_tuple_of
from termsonwires.mapforms import size_sum
from termsonwires.thingtexts import text_of


def each_given(chart, thing):
    """What the chart gives for each part of a tuple, as tokens."""
    if thing[0][0] != "tuple":
        return None
    tokens = [thing[0]]
    for part in parts_of_form(thing):
        given = given_by_chart(chart, part)
        if given is None:
            return None
        tokens.extend(given)
    return tokens


def held_at(left, thing):
    """What the holes of the form give for the thing, as tokens, by their numbers; None if it does not fit."""
    held = {}
    to = 0
    for token in left:
        if token[0] == "any" or token[0] == "each":
            end = end_of(thing, to)
            part = thing[to:end]
            held[token[1]] = part if token[0] == "any" else each_given(token[2], part)
            if held[token[1]] is None:
                return None
            to = end
        elif token != thing[to]:
            return None
        else:
            to += 1
    return held


def given_by_chart(chart, thing):
    """What the chart, by tokens, gives for the thing, by tokens."""
    for left, right in chart:
        held = held_at(left, thing)
        if held is not None:
            return filled(right, held)
    return None


def given_by_table(mapping, thing):
    return mapping[1].get(text_of(thing))


def given_by_row(mapping, thing):
    if not is_tuple_of(thing, len(mapping[1])):
        return None
    return whole_tuple([given_by(inner, part) for inner, part in zip(mapping[1], thing)])


def given_by_each(mapping, thing):
    return whole_tuple([given_by(mapping[1], part) for part in thing]) if is_tuple(thing) else None


def whole_tuple(parts):
    return None if None in parts else tuple(parts)


def given_by_ways(mapping, thing):
    if not is_tuple_of(thing, 2):
        return None
    for label, new, inner in mapping[1]:
        if label == thing[0]:
            given = given_by(inner, thing[1])
            return None if given is None else (new, given)
    return None


def given_by_turn(mapping, thing):
    return tuple([thing[k] for k in mapping[1]]) if is_tuple_of(thing, len(mapping[1])) else None


def given_by_label(mapping, thing):
    return (mapping[1], thing)


def given_by_unlabel(mapping, thing):
    return thing[1] if is_tuple_of(thing, 2) and thing[0] == mapping[1] else None


def given_by_same(mapping, thing):
    return thing


def given_by_wrap(mapping, thing):
    return (thing,)


def given_by_unwrap(mapping, thing):
    return thing[0] if is_tuple_of(thing, 1) else None


def given_by_put(mapping, thing):
    _, many, at, new = mapping
    return (*thing[:at], new, *thing[at:]) if is_tuple_of(thing, many) else None


def given_by_drop(mapping, thing):
    _, many, at, old = mapping
    fits = is_tuple_of(thing, many + 1) and text_of(thing[at]) == text_of(old)
    return (*thing[:at], *thing[at + 1:]) if fits else None


def given_by_pack(mapping, thing):
    if not is_tuple_of(thing, size_sum(mapping[1])):
        return None
    parts = []
    at = 0
    for size in mapping[1]:
        end = at + (1 if size is None else size)
        parts.append(thing[at] if size is None else thing[at:end])
        at = end
    return tuple(parts)


def given_by_unpack(mapping, thing):
    if not is_tuple_of(thing, len(mapping[1])):
        return None
    parts = []
    for size, part in zip(mapping[1], thing):
        if size is None:
            parts.append(part)
        elif is_tuple_of(part, size):
            parts.extend(part)
        else:
            return None
    return tuple(parts)


def given_by_after(mapping, thing):
    between = given_by(mapping[1], thing)
    return None if between is None else given_by(mapping[2], between)


def given_by_rules(mapping, thing):
    tokens = given_by_chart(mapping[1], flat_thing(thing))
    return None if tokens is None else thing_built(tokens)


GIVING = {
    "same": given_by_same,
    "table": given_by_table,
    "row": given_by_row,
    "each": given_by_each,
    "ways": given_by_ways,
    "turn": given_by_turn,
    "label": given_by_label,
    "unlabel": given_by_unlabel,
    "wrap": given_by_wrap,
    "unwrap": given_by_unwrap,
    "put": given_by_put,
    "drop": given_by_drop,
    "pack": given_by_pack,
    "unpack": given_by_unpack,
    "after": given_by_after,
    "rules": given_by_rules,
}


def made_ready(mapping):
    word = mapping[0]
    if word == "table":
        return ("table", {text_of(one): other for one, other in mapping[1]})
    if word == "rules":
        return ("rules", scanned_chart(mapping[1]))
    if word == "row":
        return ("row", [made_ready(inner) for inner in mapping[1]])
    if word == "each":
        return ("each", made_ready(mapping[1]))
    if word == "ways":
        return ("ways", [(label, new, made_ready(inner)) for label, new, inner in mapping[1]])
    return ("after", made_ready(mapping[1]), made_ready(mapping[2])) if word == "after" else mapping


def given_by(mapping, thing):
    """What the map, made ready, gives for the thing; None if it does not fit."""
    giving = GIVING[mapping[0]]
    return giving(mapping, thing)
