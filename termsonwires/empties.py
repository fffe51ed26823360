"""Which terms have the empty word, in any sheet, with faults or without."""

from termsonwires.kinds import is_integer
from termsonwires.nodes import settled

ANY = 1
ZERO = 2
POSITIVE = 4


def atom_flags(atom):
    """The flags of a thing with the empty word: any one, the integer 0, an integer from 1 on."""
    if not is_integer(atom) or atom < 0:
        return ANY
    return ANY | (ZERO if atom == 0 else POSITIVE)


def table_flags(rows):
    flags = 0
    for atom, bits in rows:
        if bits == "":
            flags |= atom_flags(atom)
    return flags


def flag_if(condition):
    return ANY if condition else 0


def node_flags(nodes, found, node):
    """The flags of the term of the node, by those of its parts."""
    term = nodes.terms[node]
    parts = [found[part] for part in nodes.parts[node]]
    word = term[0]
    if word == "table":
        return table_flags(term[1])
    if word == "width":
        return atom_flags(0) if term[1] == 0 else 0
    if word == "ref":
        return found[nodes.targets[node]]
    if word == "bits":
        return flag_if(term[1] == "")
    if word == "row":
        return flag_if(0 not in parts)
    if word == "either":
        return flag_if(any([way[1] == "" and part for way, part in zip(term[1], parts)]))
    if word == "times":
        return flag_if(term[1] == 0 or parts[0])
    if word == "counted":
        return flag_if(parts[0] & ZERO or (parts[0] & POSITIVE and parts[1]))
    if word == "sized":
        return parts[1] if parts[0] & ZERO else 0
    return 0


def empty_flags(nodes):
    """For each node flags, 0 if its term has not the empty word."""
    return settled(nodes, 0, lambda found, node: node_flags(nodes, found, node))
