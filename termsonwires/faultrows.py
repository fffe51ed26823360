"""The faults of a sheet, row by row: those of a later row are looked for only in a sheet without earlier ones."""

from termsonwires.empties import empty_flags
from termsonwires.errors import Faulty
from termsonwires.demands import need_sheet
from termsonwires.links import links_by, reached, ref_nodes, ringed_names
from termsonwires.nodes import Nodes
from termsonwires.numberwords import MOST_COUNTED, MOST_SIZED, is_number, number_words
from termsonwires.reader import Reader
from termsonwires.spans import Spans
from termsonwires.tables import Table, sizing_cap
from termsonwires.terms import refs_of


def one_begins_another(codes):
    """In sorted order what begins another one also begins its neighbour."""
    ranked = sorted(codes)
    return any([ranked[k + 1].startswith(ranked[k]) for k in range(len(ranked) - 1)])


def codes_of(term):
    """The bits of the rows of a table, the tags of an either; of other terms none."""
    if term[0] in ("table", "either"):
        return [row[1] for row in term[1]]
    return []


def first_row(nodes):
    """The faults "number", "tags" and "check"."""
    found = []
    ringed = ringed_names(nodes.links)
    for node in range(len(nodes.terms)):
        term = nodes.terms[node]
        name, path = nodes.places[node]
        if term[0] in ("counted", "sized"):
            most = MOST_COUNTED if term[0] == "counted" else MOST_SIZED
            if not is_number(nodes, nodes.parts[node][0], most):
                found.append((name, path, "number"))
        if one_begins_another(codes_of(term)):
            found.append((name, path, "tags"))
        if term[0] == "checked" and any([other in ringed for other in reached(nodes.links, refs_of(term))]):
            found.append((name, path, "check"))
    return found


def second_row(nodes):
    """The faults "loop" and "empty"."""
    flags = empty_flags(nodes)
    refs = ref_nodes(nodes, True)
    links = links_by(nodes, refs)
    found = []
    for node in range(len(nodes.terms)):
        name, path = nodes.places[node]
        if node in refs and name in reached(links, [nodes.terms[node][1]]):
            found.append((name, path, "loop"))
        if nodes.terms[node][0] == "until" and flags[nodes.parts[node][0]]:
            found.append((name, path, "empty"))
    return found


def early_faults(nodes):
    return sorted(first_row(nodes) or second_row(nodes))


def word_table(nodes):
    """The table of the lengths of words, as far as sized terms and the asking for any word need it."""
    numbers = number_words(nodes)
    return Table(nodes, numbers, Spans(sizing_cap(nodes, numbers)))


def late_faults(table):
    """The faults "early" and "mark" of a sheet without early faults."""
    nodes = table.nodes
    found = []
    for node in range(len(nodes.terms)):
        term = nodes.terms[node]
        if term[0] == "until":
            name, path = nodes.places[node]
            many = len(term[1])
            cell = Reader(table, term[1]).solve((nodes.parts[node][0], 0))
            if any([end < many for end in cell.ends]):
                found.append((name, path, "early"))
            if many in cell.ends or cell.unended:
                found.append((name, path, "mark"))
    return found


def told_faults(nodes):
    return early_faults(nodes) or late_faults(word_table(nodes))


def faultless_table(nodes):
    """The table of the words of a sheet; None if it has faults."""
    if early_faults(nodes):
        return None
    table = word_table(nodes)
    return None if late_faults(table) else table


def sound_table(sheet):
    """The table of the words of a sheet without faults; InvalidSheet and Faulty for all else."""
    need_sheet(sheet)
    nodes = Nodes(sheet)
    early = early_faults(nodes)
    if early:
        raise Faulty(early)
    table = word_table(nodes)
    late = late_faults(table)
    if late:
        raise Faulty(late)
    return table
