"""Number terms, and their integers with the words of these."""

from termsonwires.kinds import is_within
from termsonwires.nodes import settled
from termsonwires.spelling import digits, machine_check

MOST_COUNTED = 8
MOST_SIZED = 40


def is_number(nodes, node, most):
    """Whether the term of the node is a number term up to most; one that leads back to itself is none."""
    seen = set()
    while node not in seen:
        seen.add(node)
        term = nodes.terms[node]
        if term[0] == "table":
            return all([is_within(atom, 0, most) for atom, _ in term[1]])
        if term[0] == "width":
            return (1 << term[1]) - 1 <= most
        if term[0] == "ref":
            node = nodes.targets[node]
        elif term[0] in ("sized", "checked"):
            node = nodes.parts[node][-1]
        else:
            return False
    return False


def leaf_words(term):
    if term[0] == "table" and all([is_within(atom, 0, MOST_SIZED) for atom, _ in term[1]]):
        return dict(term[1])
    if term[0] == "width" and (1 << term[1]) - 1 <= MOST_SIZED:
        return {k: digits(k, term[1]) for k in range(1 << term[1])}
    return {}


def node_words(nodes, leaves, found, node):
    """The integers of a number term with their words, by those of its parts; {} for other terms."""
    term = nodes.terms[node]
    if term[0] == "ref":
        return found[nodes.targets[node]]
    if term[0] in ("table", "width"):
        return leaves[node]
    if term[0] not in ("sized", "checked"):
        return {}
    inner = found[nodes.parts[node][-1]]
    if term[0] == "checked":
        return {k: inner[k] + machine_check(term[1], inner[k]) for k in inner}
    sizes = found[nodes.parts[node][0]]
    return {k: sizes[len(inner[k])] + inner[k] for k in inner if len(inner[k]) in sizes}


def number_words(nodes):
    """For each node a dict from integer to word, {} for terms that are no number terms up to 40."""
    if not any([term[0] in ("counted", "sized") for term in nodes.terms]):
        return [{}] * len(nodes.terms)
    leaves = [leaf_words(term) for term in nodes.terms]
    return settled(nodes, {}, lambda found, node: node_words(nodes, leaves, found, node))
