"""Terms without refs, and the rewritings of them that keep their words."""

from termsonwires.errors import InvalidStep
from termsonwires.kinds import is_path, is_string
from termsonwires.ruling import RULES, outer_part_at, outer_parts, rewritten_part, rules_for
from termsonwires.stepmaps import map_at
from termsonwires.termparts import reach_of, sound_part, weight_of
from termsonwires.terms import with_term_at


def rewritings(term):
    """The list of all rewritings (path, rule, new), ascending by path and rule."""
    found = []
    for path, part in outer_parts(sound_part(term)):
        for rule in rules_for(part):
            new = rewritten_part(part, rule)
            if new is not None:
                found.append((path, rule, with_term_at(term, path, new.term)))
    return found


def step_map(term, path, rule):
    """A map that fits each thing of the term and gives what it becomes by this rewriting."""
    whole = sound_part(term)
    part = outer_part_at(whole, path) if is_path(path) else None
    if part is None or not is_string(rule) or rule not in RULES or rewritten_part(part, rule) is None:
        raise InvalidStep("this is no rewriting of the term")
    return map_at(whole, path, rule)


def weight(term):
    """The sum of what the parts at outer paths weigh."""
    return weight_of(sound_part(term))


def reach(term):
    """How deep the term can get by rewritings."""
    return reach_of(sound_part(term))
