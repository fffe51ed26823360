"""Two things of one term the word of one of which begins that of the other."""

from termsonwires.firsts import Firsts, first_of
from termsonwires.nodes import settled
from termsonwires.reader import Reader
from termsonwires.tables import Table

ANY = "any"
ZERO = "zero"
POSITIVE = "positive"


def overlap_of_table(rows):
    """Two atoms of a table, the bits of the first one beginning those of the other; in sorted order neighbours do."""
    ranked = sorted([(rows[k][1], k) for k in range(len(rows))])
    for one, other in zip(ranked, ranked[1:]):
        if other[0].startswith(one[0]):
            return (rows[one[1]][0], rows[other[1]][0])
    return None


def empty_atoms(rows):
    found = {}
    for atom, bits in rows:
        if bits == "":
            found[ANY] = atom
            if isinstance(atom, int) and atom >= 0:
                found[ZERO if atom == 0 else POSITIVE] = atom
    return found


def if_any(thing, parts):
    """The thing as one with the empty word, if all of its parts have such a one."""
    return {ANY: thing} if all([ANY in part for part in parts]) else {}


def empty_way(term, parts):
    for way, part in zip(term[1], parts):
        if way[1] == "" and ANY in part:
            return {ANY: (way[0], part[ANY])}
    return {}


def empty_counted(number, item):
    if ZERO in number:
        return {ANY: ()}
    if POSITIVE in number and ANY in item:
        return {ANY: (item[ANY],) * number[POSITIVE]}
    return {}


def empty_things(nodes, found, node):
    """Things of the term with the empty word: any one, the integer 0, an integer from 1 on, as far as there are such.

    A thing once found stays, so that by rings none grows without end.
    """
    term = nodes.terms[node]
    parts = [found[part] for part in nodes.parts[node]]
    word = term[0]
    if found[node] and word != "ref" and word != "sized":
        return found[node]
    if word == "table":
        return empty_atoms(term[1])
    if word == "width":
        return {ANY: 0, ZERO: 0} if term[1] == 0 else {}
    if word == "ref":
        return {**found[nodes.targets[node]], **found[node]}
    if word == "bits":
        return {ANY: ()} if term[1] == "" else {}
    if word == "row":
        return if_any(tuple([part.get(ANY) for part in parts]), parts)
    if word == "either":
        return empty_way(term, parts)
    if word == "times":
        return {ANY: ()} if term[1] == 0 else if_any((parts[0].get(ANY),) * term[1], parts)
    if word == "counted":
        return empty_counted(parts[0], parts[1])
    if word == "sized":
        return {**parts[1], **found[node]} if ZERO in parts[0] else {}
    return {}


def empty_thing(nodes, node):
    """A thing of the term with the empty word, which it has."""
    return settled(nodes, {}, lambda found, here: empty_things(nodes, found, here))[node][ANY]


def thing_begun_by(table, node, mark):
    """A thing of the term whose word the mark begins, of a sheet without early faults in which there is one."""
    firsts = Table(table.nodes, table.numbers, Firsts(table.sets.cap))
    cell = Reader(firsts, mark).solve((node, 0))
    if len(mark) in cell.ends:
        return cell.ends[len(mark)]
    word = first_of(cell.unended)
    return Reader(table, word).solve((node, 0)).ends[len(word)]
