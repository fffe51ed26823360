"""Least tellers of flat sheets: acceptors that say the texts of things as early as can be."""

from termsonwires.automata import state_at
from termsonwires.bulks import flat_table, need_small
from termsonwires.demands import need_bits, need_teller
from termsonwires.drafting import drafted_rows
from termsonwires.speech import bare_rows, is_least_teller_value, least_teller


def told_teller(table):
    """The least teller of a flat sheet without faults whose teller bulk is not too large."""
    start, rows, first = drafted_rows(table, False)
    return least_teller(start, rows, first)


def teller_of(sheet):
    """The least teller that has for each word of the sheet its thing."""
    table = flat_table(sheet)
    need_small(table, True)
    return told_teller(table)


def is_least_teller(value):
    """Whether the value is a least teller."""
    return is_least_teller_value(value)


def known(teller, bits):
    """What the bits say from the first state on; None if they lead to a dead state."""
    need_teller(teller)
    need_bits(bits)
    start, rows = teller
    texts = [start]
    state = 0
    for bit in bits:
        state, text = rows[state][int(bit)]
        texts.append(text)
    return None if rows[state][2] == "dead" else "".join(texts)


def state_known(teller, bits):
    """The state to which the bits lead the first one."""
    need_teller(teller)
    need_bits(bits)
    return state_at(bare_rows(teller[1]), 0, bits)
