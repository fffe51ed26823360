"""Maps between plain things, one to one, and the maps that lead back."""

from termsonwires.applying import given_by, made_ready
from termsonwires.chartforms import chart_value, scanned_chart
from termsonwires.demands import need_map, need_plain
from termsonwires.errors import Unfit
from termsonwires.flatforms import turned
from termsonwires.mapforms import is_any_map

TURNED_WORDS = {
    "label": "unlabel", "unlabel": "label", "wrap": "unwrap", "unwrap": "wrap", "put": "drop", "drop": "put",
    "pack": "unpack", "unpack": "pack",
}


def is_map(value):
    """Whether the value is a map."""
    return is_any_map(value)


def turned_of(mapping):
    word = mapping[0]
    if word in TURNED_WORDS:
        return (TURNED_WORDS[word], *mapping[1:])
    if word == "table":
        return ("table", tuple([(other, one) for one, other in mapping[1]]))
    if word == "row":
        return ("row", tuple([turned_of(inner) for inner in mapping[1]]))
    if word == "each":
        return ("each", turned_of(mapping[1]))
    if word == "ways":
        return ("ways", tuple([(new, label, turned_of(inner)) for label, new, inner in mapping[1]]))
    if word == "turn":
        return ("turn", tuple([mapping[1].index(k) for k in range(len(mapping[1]))]))
    if word == "after":
        return ("after", turned_of(mapping[2]), turned_of(mapping[1]))
    if word == "rules":
        return ("rules", chart_value(turned(scanned_chart(mapping[1]))))
    return mapping


def turned_map(mapping):
    """The map that leads back."""
    need_map(mapping)
    return turned_of(mapping)


def mapped(mapping, plain):
    """What the map gives for the thing."""
    need_map(mapping)
    need_plain(plain)
    given = given_by(made_ready(mapping), plain)
    if given is None:
        raise Unfit("the map does not fit the thing")
    return given
