"""The least prices of words, and the first things with a price or a length."""

from termsonwires.bylength import ByLength, aside
from termsonwires.demands import need_length, need_price
from termsonwires.faultrows import sound_table
from termsonwires.kinds import is_integer, is_list, is_string, is_tuple_of
from termsonwires.reader import Reader
from termsonwires.tracks import Tracker


class Prices:
    """What is told of a set of words of one length: (price, word), the least price and the first word with it."""

    def __init__(self, zero, one):
        self.zero = zero
        self.one = one
        self.none = None

    def price_of(self, word):
        return self.zero * word.count("0") + self.one * word.count("1")

    def of_word(self, word):
        return (self.price_of(word), word)

    def of_width(self, many):
        return self.of_word(("0" if self.zero <= self.one else "1") * many)

    def either_of(self, one, other):
        if one is None or other is None:
            return other if one is None else one
        return min(one, other)

    def chained(self, one, other):
        if one is None or other is None:
            return None
        return (one[0] + other[0], one[1] + other[1])


def price_cells(table, zero, one, most, given=None):
    """For each entry the list of (price, word) by length, of the sheet itself or by what is given for refs."""
    prices = Prices(zero, one)
    tracker = Tracker(table, prices, most)
    nodes = table.nodes
    passed = aside(nodes)
    checked = [node for node in nodes.order if nodes.terms[node][0] == "checked" and node not in passed]
    checks = {node: tracker.by_length(node) for node in checked}
    cells = ByLength(table, prices, most, checks, given).cells
    return {name: cells[nodes.entries[name]] for name in nodes.entries}


def price_floor(sheet, zero, one, most):
    """The price table of the least prices of the entries' words."""
    table = sound_table(sheet)
    need_price(zero)
    need_price(one)
    need_length(most)
    cells = price_cells(table, zero, one, most)
    return [(name, [None if cell is None else cell[0] for cell in cells[name]]) for name in table.nodes.entries]


def is_price_row(value, name, most):
    if not is_tuple_of(value, 2) or not is_string(value[0]) or value[0] != name or not is_list(value[1]):
        return False
    return len(value[1]) == most + 1 and all([price is None or is_integer(price) for price in value[1]])


def is_price_table(nodes, most, value):
    names = list(nodes.entries)
    if not is_list(value) or len(value) != len(names):
        return False
    return all([is_price_row(row, name, most) for row, name in zip(value, names)])


def is_not_above(price, cell):
    """Whether the price is at most that of the cell; None stands above all integers."""
    return cell is None or (price is not None and price <= cell[0])


def is_floor(sheet, zero, one, most, value):
    """Whether the value is a price table for most of which no price is above that which its term has by it."""
    table = sound_table(sheet)
    need_price(zero)
    need_price(one)
    need_length(most)
    if not is_price_table(table.nodes, most, value):
        return False
    given = {name: [None if price is None else (price, "") for price in row] for name, row in value}
    cells = price_cells(table, zero, one, most, given)
    return all([is_not_above(price, cell) for name, row in value for price, cell in zip(row, cells[name])])


def thing_of_word(table, word):
    return Reader(table, word).solve((table.nodes.root, 0)).ends[len(word)]


def cheapest(sheet, zero, one, most):
    """The tuple of the least price of the words of at most so many bits, and the first thing with it."""
    table = sound_table(sheet)
    need_price(zero)
    need_price(one)
    need_length(most)
    cells = price_cells(table, zero, one, most)[sheet[0]]
    found = [(cell[0], len(cell[1]), cell[1]) for cell in cells if cell is not None]
    if not found:
        return None
    price, _, word = min(found)
    return (price, thing_of_word(table, word))


def thing_of_length(sheet, length):
    """The first thing in word order with a word of this length; None if there is none."""
    table = sound_table(sheet)
    need_length(length)
    cell = price_cells(table, 0, 0, length)[sheet[0]][length]
    return None if cell is None else thing_of_word(table, cell[1])
