"""All short words of the terms of a sheet without faults, each with its thing."""

from termsonwires.nodes import settled
from termsonwires.spelling import digits, machine_check


def short(words, most):
    return {word: words[word] for word in words if len(word) <= most}


def with_one_more(rows, item, most):
    """The tuples with one thing more behind each, by their words."""
    found = {}
    for bits in rows:
        for word in item:
            if len(bits) + len(word) <= most:
                found[bits + word] = (*rows[bits], item[word])
    return found


def tuples_of(items, most):
    rows = {"": ()}
    for item in items:
        rows = with_one_more(rows, item, most)
    return rows


def listed_until(term, item, most):
    found = {}
    rows = {"": ()}
    while rows:
        for bits in rows:
            found[bits + term[1]] = rows[bits]
        rows = with_one_more(rows, item, most - len(term[1]))
    return short(found, most)


def listed_either(term, inner, most):
    found = {}
    for way, words in zip(term[1], inner):
        for word in words:
            found[way[1] + word] = (way[0], words[word])
    return short(found, most)


def listed_counted(numbers, item, most):
    found = {}
    for k in numbers:
        rows = tuples_of([item] * k, most - len(numbers[k]))
        for bits in rows:
            found[numbers[k] + bits] = rows[bits]
    return short(found, most)


def listed_leaf(term, most):
    if term[0] == "bits":
        return short({term[1]: ()}, most)
    if term[0] == "table":
        return short({bits: atom for atom, bits in term[1]}, most)
    return {digits(k, term[1]): k for k in range(1 << term[1])} if term[1] <= most else {}


def listed_term(term, inner, numbers, most):
    """A dict from each word of at most so many bits to its thing, by those of the parts."""
    word = term[0]
    if word in ("bits", "table", "width"):
        return listed_leaf(term, most)
    if word == "row":
        return tuples_of(inner, most)
    if word == "either":
        return listed_either(term, inner, most)
    if word == "times":
        return tuples_of(inner * term[1], most)
    if word == "until":
        return listed_until(term, inner[0], most)
    if word == "counted":
        return listed_counted(numbers, inner[1], most)
    things = inner[-1]
    if word == "checked":
        return short({bits + machine_check(term[1], bits): things[bits] for bits in things}, most)
    return short({numbers[len(bits)] + bits: things[bits] for bits in things if len(bits) in numbers}, most)


def short_words(table, most):
    """The words of the sheet of at most so many bits, with their things."""
    nodes = table.nodes

    def words_of(found, node):
        parts = nodes.parts[node]
        if nodes.targets[node] is not None:
            return found[nodes.targets[node]]
        numbers = table.numbers[parts[0]] if parts else {}
        return listed_term(nodes.terms[node], [found[part] for part in parts], numbers, most)

    return settled(nodes, {}, words_of)[nodes.root]
