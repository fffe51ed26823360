"""How many words of each length there are, and the things by their numbers in word order."""

from termsonwires.demands import need_bits, need_count, need_length
from termsonwires.errors import TooMany
from termsonwires.faultrows import sound_table
from termsonwires.growth import growing_nodes
from termsonwires.kinds import is_integer, is_list, is_string, is_tuple_of
from termsonwires.prices import thing_of_word
from termsonwires.reader import Reader
from termsonwires.tables import Table
from termsonwires.tallies import Tallies
from termsonwires.things import root_spelling
from termsonwires.totals import Totals

MOST_RANKED = 60


def tally_table(table, most):
    """The table of the numbers of words up to most bits."""
    return Table(table.nodes, table.numbers, Tallies(most))


def counts_of_node(tallies, node, most):
    return [tallies.sets.many_at(tallies.full[node], length) for length in range(most + 1)]


def true_table(table, most):
    tallies = tally_table(table, most)
    return [(name, counts_of_node(tallies, node, most)) for name, node in table.nodes.entries.items()]


def root_counts(table, most):
    return counts_of_node(tally_table(table, most), table.nodes.root, most)


def count_table(sheet, most):
    """The count table that balances: that of the true numbers of words."""
    table = sound_table(sheet)
    need_length(most)
    return true_table(table, most)


def is_count_row(value, name, most):
    if not is_tuple_of(value, 2) or not is_string(value[0]) or value[0] != name or not is_list(value[1]):
        return False
    return len(value[1]) == most + 1 and all([is_integer(many) and many >= 0 for many in value[1]])


def is_count_table(sheet, most, value):
    """Whether the value is a count table for most that balances; no other one than that of the true numbers does."""
    table = sound_table(sheet)
    need_length(most)
    names = list(table.nodes.entries)
    if not is_list(value) or len(value) != len(names):
        return False
    if not all([is_count_row(row, name, most) for row, name in zip(value, names)]):
        return False
    return value == true_table(table, most)


def count_things(sheet, length):
    """How many things have a word of this length."""
    table = sound_table(sheet)
    need_length(length)
    return root_counts(table, length)[length]


def counts_up_to(sheet, most):
    """How many things have a word of each length up to most."""
    table = sound_table(sheet)
    need_length(most)
    return root_counts(table, most)


def count_all(sheet):
    """How many things the sheet has; None if it grows."""
    table = sound_table(sheet)
    if growing_nodes(table) is not None:
        return None
    return Totals(table).solve(table.nodes.root)


def many_begun(tallies, bits, length):
    """How many words of this length the bits begin, by the table of the numbers of words up to this length."""
    if len(bits) > length:
        return 0
    cell = Reader(tallies, bits).solve((tallies.nodes.root, 0))
    if len(bits) == length:
        return 1 if length in cell.ends else 0
    return tallies.sets.many_at(cell.unended, length)


def count_from(sheet, bits, length):
    """How many words of this length the bits begin."""
    table = sound_table(sheet)
    need_bits(bits)
    need_length(length)
    return many_begun(tally_table(table, length), bits, length)


def nth_word(tallies, length, number):
    """Of the words of this length, of which there are more, the one ahead of which are so many, as strings."""
    bits = ""
    left = number
    while len(bits) < length:
        many = many_begun(tallies, bits + "0", length)
        if left < many:
            bits += "0"
        else:
            bits += "1"
            left -= many
    return bits


def nth_thing(sheet, number):
    """The thing ahead of which are so many in word order; None if there is none of at most 60 bits."""
    table = sound_table(sheet)
    need_count(number)
    tallies = tally_table(table, MOST_RANKED)
    left = number
    for length in range(MOST_RANKED + 1):
        many = tallies.sets.many_at(tallies.full[table.nodes.root], length)
        if left < many:
            return thing_of_word(table, nth_word(tallies, length, left))
        left -= many
    return None


def rank_of(sheet, thing):
    """How many things are ahead of the thing in word order."""
    table = sound_table(sheet)
    word = root_spelling(table.nodes, thing).word
    if len(word) > MOST_RANKED:
        raise TooMany(MOST_RANKED)
    tallies = tally_table(table, len(word))
    ahead = sum(counts_of_node(tallies, table.nodes.root, len(word) - 1))
    for k in range(len(word)):
        if word[k] == "1":
            ahead += many_begun(tallies, word[:k] + "0", len(word))
    return ahead
