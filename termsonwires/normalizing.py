"""Terms led to normal ones, part by part, and the terms that are met on the way."""

from termsonwires.kinds import is_list, is_path, is_string, is_tuple_of
from termsonwires.ruling import RULES, outer_part_at, rewritten_part, rules_for, with_part
from termsonwires.termparts import outer_indexes, things_in
from termsonwires.terms import parts_of, with_parts


def first_rewriting(part):
    """The first rule that can be used at the part itself, and what it makes of it; None if there is none."""
    for rule in rules_for(part):
        new = rewritten_part(part, rule)
        if new is not None:
            return (rule, new)
    return None


class Normalizer:
    """Keeps the steps (path, rule) that are done."""

    def __init__(self):
        self.steps = []

    def normalized(self, part, path):
        """The normal part; what has one thing at most is done with at once, else the parts in it come first."""
        while not part.normal:
            if things_in(part) > 1:
                part = self.with_normal_parts(part, path)
            found = first_rewriting(part)
            if found is None:
                part.normal = True
            else:
                self.steps.append((path, found[0]))
                part = found[1]
        return part

    def with_normal_parts(self, part, path):
        for k in outer_indexes(part):
            new = self.normalized(part.parts[k], (*path, k))
            part = with_part(part, (k,), new)
        return part


def normal_steps(whole):
    normalizer = Normalizer()
    normalizer.normalized(whole, ())
    return normalizer.steps


def stepped_part(whole, step):
    """The whole behind one step; None if the value is no step that it can take."""
    if not is_tuple_of(step, 2) or not is_path(step[0]) or not is_string(step[1]) or step[1] not in RULES:
        return None
    part = outer_part_at(whole, step[0])
    new = None if part is None else rewritten_part(part, step[1])
    return None if new is None else with_part(whole, step[0], new)


def wholes_met(whole, steps):
    """The wholes ahead of, between and behind the steps; None if the value is no rewriting row."""
    if not is_list(steps):
        return None
    found = [whole]
    for step in steps:
        whole = stepped_part(whole, step)
        if whole is None:
            return None
        found.append(whole)
    return found


def unlike_index(part, term):
    """The index of the one outer part in which the part and the term are unlike; None if there is no such one."""
    others = parts_of(term)
    if len(others) != len(part.parts) or with_parts(part.term, others) != term:
        return None
    unlike = [k for k in range(len(others)) if part.parts[k].term != others[k]]
    return unlike[0] if len(unlike) == 1 and unlike[0] in outer_indexes(part) else None


def leads_to(part, term):
    """Whether one rewriting makes the term of the part: it is at a part in which all that is unlike stands."""
    while True:
        made = [rewritten_part(part, rule) for rule in rules_for(part)]
        if any([new is not None and new.term == term for new in made]):
            return True
        k = unlike_index(part, term)
        if k is None:
            return False
        part = part.parts[k]
        term = parts_of(term)[k]
