"""The faults of sheets, and the two things that show that words of a term do not end by themselves."""

from termsonwires.demands import need_place, need_sheet
from termsonwires.faultrows import told_faults, word_table
from termsonwires.kinds import is_tuple_of
from termsonwires.nodes import Nodes
from termsonwires.overlaps import empty_thing, overlap_of_table, thing_begun_by
from termsonwires.spelling import thing_word


def faults(sheet):
    """The ascending list of the faults (name, path, word) that are told."""
    need_sheet(sheet)
    return told_faults(Nodes(sheet))


def overlap(sheet, place):
    """Two things of the term at the place that show a fault told there; None if none of these kinds is."""
    need_sheet(sheet)
    need_place(sheet, place)
    nodes = Nodes(sheet)
    node = nodes.node_at(place)
    term = nodes.terms[node]
    told = [word for name, path, word in told_faults(nodes) if (name, path) == place]
    if term[0] == "table" and "tags" in told:
        return overlap_of_table(term[1])
    if "empty" in told:
        return ((), (empty_thing(nodes, nodes.parts[node][0]),))
    if "mark" in told:
        return ((), (thing_begun_by(word_table(nodes), nodes.parts[node][0], term[1]),))
    return None


def is_overlap(sheet, place, value):
    """Whether the value is a tuple of two unlike things of the term there, the one's word beginning the other's."""
    need_sheet(sheet)
    need_place(sheet, place)
    if not is_tuple_of(value, 2):
        return False
    nodes = Nodes(sheet)
    node = nodes.node_at(place)
    words = [thing_word(nodes, node, thing) for thing in value]
    if None in words or not words[1].startswith(words[0]):
        return False
    return words[0] != words[1] or value[0] != value[1]
