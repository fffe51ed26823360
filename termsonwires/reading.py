"""Bits read as things of a sheet without faults, and what can follow them."""

from termsonwires.demands import need_at, need_bits
from termsonwires.empties import empty_flags
from termsonwires.errors import TooMany, Unfit
from termsonwires.faultrows import sound_table
from termsonwires.firsts import Firsts, first_of
from termsonwires.reader import Reader
from termsonwires.tables import Table

MOST_REST = 60


def root_cell(table, bits, at):
    return Reader(table, bits).solve((table.nodes.root, at))


def goes_on(table, bits, at):
    """Whether the bits from the index at on begin a longer word."""
    return root_cell(table, bits, at).unended != table.sets.none


def death(table, bits, at):
    """The index of the answer ("dead", index): bits that begin a word are halved in from those that begin none.

    No word begins the bits here, so none of their beginnings is a whole word.
    """
    if table.full[table.nodes.root] == table.sets.none:
        return at
    alive = at
    dead = len(bits)
    while dead - alive > 1:
        middle = (alive + dead) // 2
        if goes_on(table, bits[:middle], at):
            alive = middle
        else:
            dead = middle
    return dead


def answer(table, bits, at):
    cell = root_cell(table, bits, at)
    for end in cell.ends:
        return ("thing", cell.ends[end], end)
    if cell.unended != table.sets.none:
        return ("more",)
    return ("dead", death(table, bits, at))


def read(sheet, bits, at=0):
    """What the bits are from the index at on: ("thing", value, end), ("more",) or ("dead", index)."""
    table = sound_table(sheet)
    need_bits(bits)
    need_at(bits, at)
    return answer(table, bits, at)


def is_word(sheet, bits):
    """Whether the bits are a word of the sheet."""
    table = sound_table(sheet)
    need_bits(bits)
    return len(bits) in root_cell(table, bits, 0).ends


def begins_word(table, bits):
    """Whether the bits begin a word; one that ends ahead of their end does not count."""
    cell = root_cell(table, bits, 0)
    return len(bits) in cell.ends or cell.unended != table.sets.none


def can_follow(sheet, bits):
    """The ascending list of the bits that, put behind, begin a word with them."""
    table = sound_table(sheet)
    need_bits(bits)
    return [bit for bit in ("0", "1") if begins_word(table, bits + bit)]


def rest(sheet, bits):
    """The first bits by length that make the bits a word; None if none do."""
    table = sound_table(sheet)
    need_bits(bits)
    firsts = Table(table.nodes, table.numbers, Firsts(table.sets.cap))
    cell = root_cell(firsts, bits, 0)
    if len(bits) in cell.ends:
        return ""
    word = first_of(cell.unended)
    if word is None:
        return None
    if len(word) - len(bits) > MOST_REST:
        raise TooMany(MOST_REST)
    return word[len(bits):]


def read_run(sheet, bits, at=0):
    """The things of words one behind the other, the index behind the last one, and what is told there."""
    table = sound_table(sheet)
    need_bits(bits)
    need_at(bits, at)
    if empty_flags(table.nodes)[table.nodes.root]:
        raise Unfit("the sheet has the empty word")
    things = []
    while at < len(bits):
        told = answer(table, bits, at)
        if told[0] != "thing":
            return (things, at, told)
        things.append(told[1])
        at = told[2]
    return (things, at, None)
