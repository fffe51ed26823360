"""Tables that tell something of the words of each length apart, as [21] adds it up from parts.

What is told of words is told by worths: what of_word tells of a word, either_of of two sets of words, chained of
those of the one with those of the other behind them; none is told where there is no word.
"""


class ByLength:
    """The cells of all nodes for the lengths from 0 to most; None as given: of the sheet itself, else by given.

    given has for each entry the list of its cells; checks has them for each node of a checked term that counts.
    """

    def __init__(self, table, worths, most, checks, given=None):
        self.table = table
        self.nodes = table.nodes
        self.worths = worths
        self.most = most
        self.checks = checks
        self.given = given
        self.cells = [[worths.none] * (most + 1) for _ in self.nodes.terms]
        self.rows = {}
        self.order = [node for node in self.nodes.order if node not in aside(self.nodes)]
        for length in range(most + 1):
            self.fill(length)

    def fill(self, length):
        """The cells of this length, again and again while rings of refs make them move."""
        moved = True
        while moved:
            moved = False
            for node in self.order:
                cell = self.cell_at(node, length)
                if cell != self.cells[node][length]:
                    self.cells[node][length] = cell
                    moved = self.given is None and not self.nodes.flat

    def cell_at(self, node, length):
        term = self.nodes.terms[node]
        worths = self.worths
        word = term[0]
        if word == "bits":
            return self.told([term[1]], length)
        if word == "table":
            return self.told([bits for _, bits in term[1]], length)
        if word == "width":
            return worths.of_width(length) if length == term[1] else worths.none
        if word == "ref":
            if self.given is not None:
                return self.given[term[1]][length]
            return self.cells[self.nodes.targets[node]][length]
        if word == "checked":
            return self.checks[node][length]
        return self.by_parts(node, term, self.nodes.parts[node], length)

    def by_parts(self, node, term, parts, length):
        word = term[0]
        if word == "row":
            return self.row_at(node, parts, length)[-1][length]
        if word == "times":
            return self.row_at(node, parts * term[1], length)[-1][length]
        if word == "either":
            return self.any_of([self.behind(way[1], self.cells[part], length) for way, part in zip(term[1], parts)])
        if word == "until":
            return self.until_at(node, term[1], self.cells[parts[0]], length)
        words = self.table.numbers[parts[0]]
        if word == "counted":
            rows = self.row_at(node, parts[1:] * max(words, default=0), length)
            return self.any_of([self.behind(words[k], rows[k], length) for k in words])
        sized = [k for k in words if len(words[k]) + k == length]
        return self.any_of([self.behind(words[k], self.cells[parts[1]], length) for k in sized])

    def any_of(self, cells):
        total = self.worths.none
        for cell in cells:
            total = self.worths.either_of(total, cell)
        return total

    def told(self, words, length):
        return self.any_of([self.worths.of_word(word) for word in words if len(word) == length])

    def behind(self, word, cells, length):
        """What is told of the word with words behind it, of so many bits together."""
        if len(word) > length:
            return self.worths.none
        return self.worths.chained(self.worths.of_word(word), cells[length - len(word)])

    def mixed(self, first, second, length, least):
        """What is told of words of the one and then of the other, those of the first of at least so many bits."""
        worths = self.worths
        total = worths.none
        for k in range(least, length + 1):
            if first[k] != worths.none and second[length - k] != worths.none:
                total = worths.either_of(total, worths.chained(first[k], second[length - k]))
        return total

    def row_at(self, node, parts, length):
        """For each k the cells of the first k parts one behind the other, up to this length."""
        if node not in self.rows:
            rows = [[self.worths.none] * (self.most + 1) for _ in range(len(parts) + 1)]
            rows[0][0] = self.worths.of_word("")
            self.rows[node] = rows
        rows = self.rows[node]
        for k in range(len(parts)):
            rows[k + 1][length] = self.mixed(rows[k], self.cells[parts[k]], length, 0)
        return rows

    def until_at(self, node, mark, item, length):
        """An item of no bits does not count."""
        return self.worths.either_of(self.told([mark], length), self.mixed(item, self.cells[node], length, 1))


def aside(nodes):
    """The nodes in numbers and in checked terms, of which no cell is asked."""
    found = {}
    for node in range(len(nodes.terms)):
        word = nodes.terms[node][0]
        parts = nodes.parts[node]
        inner = parts if node in found or word == "checked" else parts[:1] if word in ("counted", "sized") else []
        for part in inner:
            found[part] = True
    return found
