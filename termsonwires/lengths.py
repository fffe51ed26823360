"""The lengths of the words of a sheet without faults."""

from termsonwires.demands import need_length
from termsonwires.faultrows import sound_table
from termsonwires.firsts import Firsts, first_of
from termsonwires.kinds import is_ascending, is_list, is_string, is_tuple_of, is_within
from termsonwires.spans import Spans
from termsonwires.tables import Table


def length_spans(table, most):
    """The table of all lengths up to most."""
    return Table(table.nodes, table.numbers, Spans(most + 1))


def listed(mask, most):
    return [length for length in range(most + 1) if (mask >> length) & 1]


def lengths(sheet, most):
    """The ascending list of the lengths of the sheet's words up to most."""
    table = sound_table(sheet)
    need_length(most)
    spans = length_spans(table, most)
    return listed(spans.full[spans.nodes.root], most)


def length_table(sheet, most):
    """The list of (name, list of the true lengths up to most)."""
    table = sound_table(sheet)
    need_length(most)
    spans = length_spans(table, most)
    return [(name, listed(spans.full[node], most)) for name, node in spans.nodes.entries.items()]


def is_length_row(value, name, most):
    if not is_tuple_of(value, 2) or not is_string(value[0]) or value[0] != name or not is_list(value[1]):
        return False
    return all([is_within(length, 0, most) for length in value[1]]) and is_ascending(value[1])


def is_length_table(nodes, most, value):
    names = list(nodes.entries)
    if not is_list(value) or len(value) != len(names):
        return False
    return all([is_length_row(row, name, most) for row, name in zip(value, names)])


def is_closed(sheet, most, value):
    """Whether the value is a length table for most that has all lengths that terms have by it."""
    table = sound_table(sheet)
    need_length(most)
    if not is_length_table(table.nodes, most, value):
        return False
    spans = Table(table.nodes, table.numbers, Spans(most + 1))
    found = spans.by_entries({name: sum([1 << length for length in row]) for name, row in value})
    return all([length in row for name, row in value for length in listed(found[name], most)])


def least_length(sheet):
    """The least length of a word; None without words."""
    table = sound_table(sheet)
    firsts = Table(table.nodes, table.numbers, Firsts(table.sets.cap))
    word = first_of(firsts.full[table.nodes.root])
    return None if word is None else len(word)
