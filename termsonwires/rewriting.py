"""Rewritings one behind the other, normal terms, and roads between terms with the same words."""

from termsonwires.bulks import flat_table
from termsonwires.errors import InvalidSteps, InvalidThing, TooMany
from termsonwires.faultrows import told_faults, word_table
from termsonwires.kinds import is_list
from termsonwires.links import reached
from termsonwires.nodes import Nodes
from termsonwires.normalizing import leads_to, normal_steps, wholes_met
from termsonwires.prices import thing_of_word
from termsonwires.spelling import thing_word
from termsonwires.termparts import part_of_term, reach_of, sheet_of_term, sound_part, sound_parts
from termsonwires.terms import MOST_DEPTH, is_any_term, refs_of, term_of_name, with_refs

MOST_TERMS = 80


def many_terms(nodes):
    """How many terms the root's term has if refs are replaced by what they name."""
    found = [0] * len(nodes.terms)
    for node in nodes.order:
        if nodes.targets[node] is None:
            found[node] = 1 + sum([found[part] for part in nodes.parts[node]])
        else:
            found[node] = found[nodes.targets[node]]
    return found[nodes.root]


def put_in(sheet):
    """The term of the root with the terms of entries in the place of refs to them."""
    nodes = flat_table(sheet).nodes
    if many_terms(nodes) > MOST_TERMS:
        raise TooMany(MOST_TERMS)
    needed = reached(nodes.links, [sheet[0]])
    terms = {}
    for name in nodes.line:
        if name in needed:
            terms[name] = with_refs(term_of_name(sheet, name), terms)
    if reach_of(part_of_term(terms[sheet[0]])) > MOST_DEPTH:
        raise TooMany(MOST_DEPTH)
    return terms[sheet[0]]


def is_rewriting_row(term, value):
    """Whether the value is a list of steps (path, rule), each a rewriting of what those ahead of it lead to."""
    return wholes_met(sound_part(term), value) is not None


def last_term(term, steps):
    met = wholes_met(sound_part(term), steps)
    if met is None:
        raise InvalidSteps("this is no rewriting row of the term")
    return met[-1].term


def rewritten(term, steps):
    """The term to which the steps lead."""
    return last_term(term, steps)


def carried(term, steps, thing):
    """What a thing of the term becomes by the steps: words stay, so it is the thing with its word."""
    nodes = Nodes(sheet_of_term(last_term(term, steps)))
    first = Nodes(sheet_of_term(term))
    word = thing_word(first, first.root, thing)
    if word is None:
        raise InvalidThing("this is no thing of the term")
    return thing_of_word(word_table(nodes), word)


def is_normal_term(term):
    """Whether the term has no rewriting."""
    return normal_steps(sound_part(term)) == []


def normal_row(term):
    """A rewriting row that leads to a normal term."""
    return normal_steps(sound_part(term))


def normal_wholes(whole):
    """The wholes that are met on the way to the normal one."""
    return wholes_met(whole, normal_steps(whole))


def normal_term(term):
    """The normal term to which rewritings lead."""
    return normal_wholes(sound_part(term))[-1].term


def is_road_term(value):
    """Whether the value is a term that can stand in a road."""
    if not is_any_term(value) or refs_of(value) or told_faults(Nodes(sheet_of_term(value))):
        return False
    return reach_of(part_of_term(value)) <= MOST_DEPTH


def is_road(term, other_term, value):
    """Whether the value is a road from the one term to the other."""
    sound_parts([term, other_term])
    if not is_list(value) or value == [] or not all([is_road_term(part) for part in value]):
        return False
    if value[0] != term or value[-1] != other_term:
        return False
    parts = [part_of_term(part) for part in value]
    pairs = [(parts[k], parts[k + 1]) for k in range(len(parts) - 1)]
    return all([leads_to(one, other.term) or leads_to(other, one.term) for one, other in pairs])


def road(term, other_term):
    """A road from the one term to the other; None if there is none."""
    parts = sound_parts([term, other_term])
    ways = [[whole.term for whole in normal_wholes(part)] for part in parts]
    if ways[0][-1] != ways[1][-1]:
        return None
    return ways[0] + ways[1][-2::-1]
