"""Maps as values: what they are, and the maps inside of them."""

from termsonwires.chartforms import is_clean_chart
from termsonwires.kinds import is_plain, is_string, is_text, is_tuple, is_tuple_of, is_within
from termsonwires.thingtexts import text_of

MOST_SMALL = 40


def is_small(value):
    return is_within(value, 0, MOST_SMALL)


def are_unlike(texts):
    return len(set(texts)) == len(texts)


def is_bare_map(value):
    return len(value) == 1


def is_table_map(value):
    if len(value) != 2 or not is_tuple(value[1]) or not all([is_tuple_of(pair, 2) for pair in value[1]]):
        return False
    if not all([is_plain(thing) for pair in value[1] for thing in pair]):
        return False
    return are_unlike([text_of(one) for one, _ in value[1]]) and are_unlike([text_of(other) for _, other in value[1]])


def is_row_map(value):
    return len(value) == 2 and is_tuple(value[1])


def is_each_map(value):
    return len(value) == 2


def is_ways_map(value):
    if len(value) != 2 or not is_tuple(value[1]):
        return False
    if not all([is_tuple_of(way, 3) and is_text(way[0]) and is_text(way[1]) for way in value[1]]):
        return False
    return are_unlike([label for label, _, _ in value[1]]) and are_unlike([new for _, new, _ in value[1]])


def is_turn_map(value):
    if len(value) != 2 or not is_tuple(value[1]) or not is_small(len(value[1])):
        return False
    return all([is_small(k) for k in value[1]]) and sorted(value[1]) == list(range(len(value[1])))


def is_label_map(value):
    return len(value) == 2 and is_text(value[1])


def is_put_map(value):
    if len(value) != 4 or not is_small(value[1]) or not is_small(value[2]):
        return False
    return value[2] <= value[1] and is_plain(value[3])


def size_sum(sizes):
    return sum([1 if size is None else size for size in sizes])


def is_pack_map(value):
    if len(value) != 2 or not is_tuple(value[1]) or not is_small(len(value[1])):
        return False
    return all([size is None or is_small(size) for size in value[1]]) and is_small(size_sum(value[1]))


def is_after_map(value):
    return len(value) == 3


def is_rules_map(value):
    return len(value) == 2 and is_clean_chart(value[1])


FORMS = {
    "same": is_bare_map,
    "table": is_table_map,
    "row": is_row_map,
    "each": is_each_map,
    "ways": is_ways_map,
    "turn": is_turn_map,
    "label": is_label_map,
    "unlabel": is_label_map,
    "wrap": is_bare_map,
    "unwrap": is_bare_map,
    "put": is_put_map,
    "drop": is_put_map,
    "pack": is_pack_map,
    "unpack": is_pack_map,
    "after": is_after_map,
    "rules": is_rules_map,
}


def has_map_form(value):
    """Whether the value is a map, the maps inside of it not looked at."""
    if not is_tuple(value) or value == () or not is_string(value[0]):
        return False
    form = FORMS.get(value[0])
    return form is not None and form(value)


def inner_maps(mapping):
    """The maps directly inside of the map."""
    if mapping[0] == "row":
        return list(mapping[1])
    if mapping[0] == "each":
        return [mapping[1]]
    if mapping[0] == "ways":
        return [way[2] for way in mapping[1]]
    return [mapping[1], mapping[2]] if mapping[0] == "after" else []


def is_any_map(value):
    """What waits stands in a list, so that no call stands inside of another one for it."""
    waiting = [value]
    while waiting:
        mapping = waiting.pop()
        if not has_map_form(mapping):
            return False
        waiting.extend(inner_maps(mapping))
    return True
