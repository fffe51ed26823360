"""Bulks of terms, which bound the rows of acceptors and tellers, and the demand for flat sheets."""

from termsonwires.demands import need_sheet
from termsonwires.errors import Endless, TooMany
from termsonwires.faultrows import sound_table
from termsonwires.links import ringed_names

MOST_BULK = 400


def need_flat(table):
    ringed = ringed_names(table.nodes.links)
    if ringed:
        raise Endless(ringed[0])


def flat_tables(sheets):
    """The tables of the words of flat sheets without faults; of each kind of error the first sheet that has it."""
    for sheet in sheets:
        need_sheet(sheet)
    tables = [sound_table(sheet) for sheet in sheets]
    for table in tables:
        need_flat(table)
    return tables


def flat_table(sheet):
    return flat_tables([sheet])[0]


def bits_in(words):
    return sum([len(word) for word in words])


def node_bulk(table, found, node, telling):
    """The bulk of the term of the node, by those of its parts; telling: the teller bulk."""
    term = table.nodes.terms[node]
    parts = table.nodes.parts[node]
    inner = sum([found[part] for part in parts])
    word = term[0]
    if word == "bits":
        return len(term[1])
    if word == "table":
        return bits_in([bits for _, bits in term[1]])
    if word == "width":
        return (1 << term[1]) - 1 if telling else term[1]
    if word == "either":
        return bits_in([tag for _, tag, _ in term[1]]) + inner
    if word == "times":
        return term[1] * inner
    if word == "until":
        return len(term[1]) + inner
    if word == "checked":
        return len(term[1]) * (inner + len(term[1][0][2]))
    if word in ("counted", "sized"):
        words = table.numbers[parts[0]]
        return bits_in(list(words.values())) + max(list(words), default=0) * found[parts[1]]
    return found[table.nodes.targets[node]] if word == "ref" else inner


def root_bulk(table, telling):
    """Of a flat sheet."""
    found = [0] * len(table.nodes.terms)
    for node in table.nodes.order:
        found[node] = node_bulk(table, found, node, telling)
    return found[table.nodes.root]


def need_small(table, telling):
    total = root_bulk(table, telling)
    if total > MOST_BULK:
        raise TooMany(total)
