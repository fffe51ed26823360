"""The things of a sheet, their words, and where in a word its parts stand."""

from termsonwires.demands import need_sheet
from termsonwires.empties import empty_flags
from termsonwires.errors import InvalidThing
from termsonwires.nodes import Nodes
from termsonwires.spelling import spelled


def is_thing(sheet, value):
    """Whether the value is a thing of the sheet."""
    need_sheet(sheet)
    nodes = Nodes(sheet)
    return spelled(nodes, nodes.root, value) is not None


def root_spelling(nodes, thing):
    spelling = spelled(nodes, nodes.root, thing)
    if spelling is None:
        raise InvalidThing("this is no thing of the sheet")
    return spelling


def word_of(sheet, thing):
    """The word of the thing."""
    need_sheet(sheet)
    return root_spelling(Nodes(sheet), thing).word


def has_empty(sheet):
    """Whether the sheet has the empty word."""
    need_sheet(sheet)
    nodes = Nodes(sheet)
    return empty_flags(nodes)[nodes.root] != 0


def head_length(nodes, spelling):
    """How many bits of the word stand ahead of its parts."""
    term = nodes.terms[spelling.node]
    if term[0] != "either":
        return 0
    return len(spelling.word) - len(spelling.parts[0].word)


def layout(sheet, thing):
    """The list of (name, path, thing, start, end), one for each term that has a part of the word."""
    need_sheet(sheet)
    nodes = Nodes(sheet)
    rows = []
    waiting = [(root_spelling(nodes, thing), 0)]
    while waiting:
        spelling, start = waiting.pop()
        name, path = nodes.places[spelling.node]
        rows.append((name, path, spelling.thing, start, start + len(spelling.word)))
        at = start + head_length(nodes, spelling)
        parts = []
        for part in spelling.parts:
            parts.append((part, at))
            at += len(part.word)
        waiting.extend(parts[::-1])
    return rows
