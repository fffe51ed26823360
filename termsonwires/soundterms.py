"""The demand for terms that can be rewritten: without refs, without faults, of a small reach."""

from termsonwires.demands import need_term
from termsonwires.errors import InvalidTerm
from termsonwires.faultrows import sound_table
from termsonwires.terms import MOST_DEPTH
from termsonwires.termparts import part_of_term, reach_of, sheet_of_term


def need_reach(part):
    if reach_of(part) > MOST_DEPTH:
        raise InvalidTerm("the reach of the term is above 12")


def sound_parts(terms):
    """The parts of terms; each kind of error of the first term that has it."""
    for term in terms:
        need_term(term)
    for term in terms:
        sound_table(sheet_of_term(term))
    parts = [part_of_term(term) for term in terms]
    for part in parts:
        need_reach(part)
    return parts


def sound_part(term):
    return sound_parts([term])[0]
