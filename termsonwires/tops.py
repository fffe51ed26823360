"""How long words can get: live steps, and tops of terms."""


def has_word(table, node):
    return table.full[node] != table.sets.none


def counts_of(table, node):
    """The integers of the number of a counted or sized term."""
    return list(table.numbers[table.nodes.parts[node][0]])


def live_steps(table, node):
    """The nodes to which a live step leads from the node."""
    nodes = table.nodes
    term = nodes.terms[node]
    parts = nodes.parts[node]
    if term[0] == "row":
        wordless = [part for part in parts if not has_word(table, part)]
        return [part for part in parts if not wordless or wordless == [part]]
    if term[0] in ("either", "checked"):
        return parts
    if term[0] == "times":
        return parts if term[1] >= 1 else []
    if term[0] == "counted":
        return parts[1:] if max(counts_of(table, node), default=0) >= 1 else []
    if term[0] == "ref":
        return [nodes.targets[node]]
    return []


def is_endless_until(table, node):
    """Whether the term is an until whose item has a word."""
    return table.nodes.terms[node][0] == "until" and has_word(table, table.nodes.parts[node][0])


class Tops:
    """The tops of terms that have a word, by the numbers that a dict has for entries.

    asked holds the names of all entries that were asked for.
    """

    def __init__(self, table, given):
        self.table = table
        self.given = given
        self.asked = {}

    def top(self, node):
        """The top of the term of the node; None if there is none."""
        term = self.table.nodes.terms[node]
        word = term[0]
        if word == "bits":
            return len(term[1])
        if word == "table":
            return max([len(bits) for _, bits in term[1]])
        if word == "width":
            return term[1]
        if word == "ref":
            self.asked[term[1]] = True
            return self.given.get(term[1])
        return self.top_by_parts(node, term, self.table.nodes.parts[node])

    def top_by_parts(self, node, term, parts):
        word = term[0]
        if word == "row":
            return added([self.top(part) for part in parts])
        if word == "times":
            return added([self.top(parts[0])] * term[1] if term[1] else [])
        if word == "either":
            live = [(way[1], part) for way, part in zip(term[1], parts) if has_word(self.table, part)]
            return greatest([added([len(tag), self.top(part)]) for tag, part in live])
        if word == "checked":
            return added([self.top(parts[0]), len(term[1][0][2])])
        if word == "until":
            return None if has_word(self.table, parts[0]) else len(term[1])
        if word == "counted":
            return self.top_of_counted(self.table.numbers[parts[0]], parts[1])
        sets = self.table.sets
        words = self.table.numbers[parts[0]]
        return max([len(words[k]) + k for k in words if sets.exactly(self.table.full[parts[1]], k)])

    def top_of_counted(self, words, item):
        """What is taken 0 times is not asked for."""
        counts = [k for k in words if k == 0 or has_word(self.table, item)]
        inner = self.top(item) if max(counts) > 0 else 0
        return greatest([added([len(words[k])] + [inner] * k) for k in counts])


def added(numbers):
    """The sum; None if one of them is None."""
    return None if None in numbers else sum(numbers)


def greatest(numbers):
    return None if None in numbers else max(numbers)
