"""What is told of all terms by what is told of their parts: sets of words, in one of the two ways of keeping them."""

from termsonwires.nodes import settled


def joined(sets, rows):
    total = sets.none
    for row in rows:
        total = sets.either_of(total, row)
    return total


def suffixes(sets, rows):
    """For each k the rows from k on, one behind the other; at the end the empty word."""
    found = [sets.of_word("")]
    for row in rows[::-1]:
        found.append(sets.chained(row, found[-1]))
    return found[::-1]


def counted_words(sets, numbers, item):
    powers = suffixes(sets, [item] * max(numbers, default=0))[::-1]
    return joined(sets, [sets.ahead(numbers[k], powers[k]) for k in numbers])


def term_words(sets, term, inner, numbers):
    """The words of a term that is no ref, by those of its parts; numbers are the integers and words of its number."""
    word = term[0]
    if word == "bits":
        return sets.of_word(term[1])
    if word == "table":
        return joined(sets, [sets.of_word(bits) for _, bits in term[1]])
    if word == "width":
        return sets.filled("", term[1])
    if word == "row":
        return suffixes(sets, inner)[0]
    if word == "either":
        return joined(sets, [sets.ahead(way[1], words) for way, words in zip(term[1], inner)])
    if word == "times":
        return suffixes(sets, inner * term[1])[0]
    if word == "until":
        return sets.chained(sets.repeated(inner[0]), sets.of_word(term[1]))
    if word == "checked":
        return sets.with_check(inner[0], term[1])
    if word == "counted":
        return counted_words(sets, numbers, inner[1])
    return joined(sets, [sets.ahead(numbers[k], sets.exactly(inner[1], k)) for k in numbers])


class Table:
    """The words of all nodes of a sheet, as sets tells them; numbers are the integers and words of its numbers."""

    def __init__(self, nodes, numbers, sets):
        self.nodes = nodes
        self.numbers = numbers
        self.sets = sets
        self.full = settled(nodes, sets.none, lambda found, node: self.by_parts(found, node))

    def by_parts(self, found, node):
        """The words of the term of the node, by those that are found for its parts."""
        term = self.nodes.terms[node]
        parts = self.nodes.parts[node]
        if term[0] == "ref":
            return found[self.nodes.targets[node]]
        numbers = self.numbers[parts[0]] if parts else {}
        return term_words(self.sets, term, [found[part] for part in parts], numbers)

    def by_entries(self, given):
        """For each entry the words of its term, by those that are given for the entries."""
        found = [self.sets.none] * len(self.nodes.terms)
        for node in self.nodes.order:
            term = self.nodes.terms[node]
            found[node] = given[term[1]] if term[0] == "ref" else self.by_parts(found, node)
        return {name: found[self.nodes.entries[name]] for name in self.nodes.entries}


def sizing_cap(nodes, numbers):
    """One more than the greatest integer of a sized term's number; 0 if there is none."""
    sized = [node for node in range(len(nodes.terms)) if nodes.terms[node][0] == "sized"]
    return max([k + 1 for node in sized for k in numbers[nodes.parts[node][0]]], default=0)
