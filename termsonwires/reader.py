"""Terms read from bits: for a term and an index, what words of the term begin there.

A cell tells of a node and an index in the bits the words that end within the bits, with their things, and of those
that the rest of the bits begins, but does not end, as much as sets tells of words (see spans.py and firsts.py).
"""

from termsonwires.solver import Solver
from termsonwires.spelling import machine_check
from termsonwires.tables import joined, suffixes


class Cell:
    """ends: a dict from the index behind a word to a thing with this word; unended: the words that are longer."""

    def __init__(self, ends, unended):
        self.ends = ends
        self.unended = unended


def number_of(bits):
    number = 0
    for bit in bits:
        number = 2 * number + (1 if bit == "1" else 0)
    return number


class Reader(Solver):
    """Reads one string of bits by a sheet without faults of the rows 1 and 2; table: its words, as sets tells them."""

    def __init__(self, table, bits):
        super().__init__()
        self.nodes = table.nodes
        self.numbers = table.numbers
        self.sets = table.sets
        self.full = table.full
        self.bits = bits
        self.tails = {}

    def attempt(self, key):
        node, at = key
        term = self.nodes.terms[node]
        rule = RULES[term[0]]
        return rule(self, node, term, at)

    def words_cell(self, pairs, at):
        """The cell of a term with just these pairs (thing, word)."""
        rest = self.bits[at:]
        ends = {}
        unended = self.sets.none
        for thing, word in pairs:
            if rest.startswith(word):
                ends[at + len(word)] = thing
            elif word.startswith(rest):
                unended = self.sets.either_of(unended, self.sets.of_word(word))
        return Cell(ends, unended)

    def words_behind(self, node, parts):
        """For each k the words of all parts of the row from k on."""
        if node not in self.tails:
            self.tails[node] = suffixes(self.sets, [self.full[part] for part in parts])
        return self.tails[node][-1 - len(parts):]

    def row_cell(self, at, start, parts, behind):
        """The cell at `at` of parts one behind the other from `start` on; None if a cell is wanted for it."""
        sets = self.sets
        ends = {start: ()}
        unended = sets.none
        for k in range(len(parts)):
            onward = {}
            for spot in ends:
                cell = self.ask((parts[k], spot))
                if cell is None:
                    return None
                if cell.unended:
                    words = sets.ahead(self.bits[at:spot], sets.chained(cell.unended, behind[k + 1]))
                    unended = sets.either_of(unended, words)
                for end in cell.ends:
                    onward[end] = (*ends[spot], cell.ends[end])
            ends = onward
        return Cell(ends, unended)


def bits_cell(reader, node, term, at):
    return reader.words_cell([((), term[1])], at)


def table_cell(reader, node, term, at):
    return reader.words_cell(term[1], at)


def width_cell(reader, node, term, at):
    digits = reader.bits[at:at + term[1]]
    if len(digits) == term[1]:
        return Cell({at + term[1]: number_of(digits)}, reader.sets.none)
    return Cell({}, reader.sets.filled(digits, term[1]))


def ref_cell(reader, node, term, at):
    return reader.ask((reader.nodes.targets[node], at))


def row_term_cell(reader, node, term, at):
    parts = reader.nodes.parts[node]
    return reader.row_cell(at, at, parts, reader.words_behind(node, parts))


def times_cell(reader, node, term, at):
    parts = reader.nodes.parts[node] * term[1]
    return reader.row_cell(at, at, parts, reader.words_behind(node, parts))


def either_cell(reader, node, term, at):
    sets = reader.sets
    rest = reader.bits[at:]
    ends = {}
    unended = sets.none
    for way, part in zip(term[1], reader.nodes.parts[node]):
        if rest.startswith(way[1]):
            cell = reader.ask((part, at + len(way[1])))
            if cell is None:
                return None
            unended = sets.either_of(unended, sets.ahead(way[1], cell.unended))
            for end in cell.ends:
                ends[end] = (way[0], cell.ends[end])
        elif way[1].startswith(rest):
            unended = sets.either_of(unended, sets.ahead(way[1], reader.full[part]))
    return Cell(ends, unended)


def counted_cell(reader, node, term, at):
    sets = reader.sets
    rest = reader.bits[at:]
    number, item = reader.nodes.parts[node]
    words = reader.numbers[number]
    behind = reader.words_behind(node, [item] * max(words, default=0))
    found = Cell({}, sets.none)
    for k in words:
        powers = behind[-1 - k:]
        cell = None
        if rest.startswith(words[k]):
            cell = reader.row_cell(at, at + len(words[k]), [item] * k, powers)
            if cell is None:
                return None
        elif words[k].startswith(rest):
            cell = Cell({}, sets.ahead(words[k], powers[0]))
        if cell is not None:
            found = Cell({**found.ends, **cell.ends}, sets.either_of(found.unended, cell.unended))
    return found


def until_cell(reader, node, term, at):
    """The mark and the next item may both go on here; only where the bits end can both be left."""
    sets = reader.sets
    found = reader.words_cell([((), term[1])], at)
    item = reader.ask((reader.nodes.parts[node][0], at))
    if item is None:
        return None
    ends = dict(found.ends)
    unended = sets.either_of(found.unended, sets.chained(item.unended, reader.full[node]))
    for spot in item.ends:
        cell = reader.ask((node, spot))
        if cell is None:
            return None
        unended = sets.either_of(unended, sets.ahead(reader.bits[at:spot], cell.unended))
        for end in cell.ends:
            ends[end] = (item.ends[spot], *cell.ends[end])
    return Cell(ends, unended)


def sized_cell(reader, node, term, at):
    sets = reader.sets
    rest = reader.bits[at:]
    number, inner = reader.nodes.parts[node]
    words = reader.numbers[number]
    ends = {}
    rows = []
    for k in words:
        if rest.startswith(words[k]):
            start = at + len(words[k])
            cell = reader.ask((inner, start))
            if cell is None:
                return None
            rows.append(sets.ahead(words[k], sets.exactly(cell.unended, k)))
            if start + k in cell.ends:
                ends[start + k] = cell.ends[start + k]
        elif words[k].startswith(rest):
            rows.append(sets.ahead(words[k], sets.exactly(reader.full[inner], k)))
    return Cell(ends, joined(sets, rows))


def checked_cell(reader, node, term, at):
    sets = reader.sets
    inner = reader.ask((reader.nodes.parts[node][0], at))
    if inner is None:
        return None
    ends = {}
    unended = sets.with_check(inner.unended, term[1])
    for end in inner.ends:
        word = reader.bits[at:end]
        cell = reader.words_cell([(inner.ends[end], machine_check(term[1], word))], end)
        ends.update(cell.ends)
        unended = sets.either_of(unended, sets.ahead(word, cell.unended))
    return Cell(ends, unended)


RULES = {
    "bits": bits_cell,
    "table": table_cell,
    "width": width_cell,
    "row": row_term_cell,
    "either": either_cell,
    "times": times_cell,
    "counted": counted_cell,
    "until": until_cell,
    "sized": sized_cell,
    "checked": checked_cell,
    "ref": ref_cell,
}
