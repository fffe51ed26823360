"""Least acceptors of flat sheets, and what they tell of bits."""

from termsonwires.automata import is_least_acceptor, least_acceptor, state_at
from termsonwires.bulks import flat_table, need_small, root_bulk
from termsonwires.demands import need_acceptor, need_bits, need_state
from termsonwires.drafting import drafted_rows
from termsonwires.ratios import shares_of
from termsonwires.search import first_bits
from termsonwires.speech import bare_rows


def bulk(sheet):
    """The bulk of a flat sheet."""
    return root_bulk(flat_table(sheet), False)


def teller_bulk(sheet):
    """The teller bulk of a flat sheet."""
    return root_bulk(flat_table(sheet), True)


def acceptor_of(sheet):
    """The least acceptor with the words of the sheet."""
    table = flat_table(sheet)
    need_small(table, False)
    _, rows, first = drafted_rows(table, True)
    return least_acceptor(bare_rows(rows), first)


def is_least(value):
    """Whether the value is a least acceptor."""
    return is_least_acceptor(value)


def state_behind(acceptor, state, bits):
    """The state to which the bits lead the state."""
    need_acceptor(acceptor)
    need_state(acceptor, state)
    need_bits(bits)
    return state_at(acceptor, state, bits)


def acceptor_read(acceptor, bits):
    """What the bits are: ("whole", end), ("more",) or ("dead", index)."""
    need_acceptor(acceptor)
    need_bits(bits)
    state = 0
    for k in range(len(bits) + 1):
        kind = acceptor[state][2]
        if kind != "open":
            return (kind, k)
        if k < len(bits):
            state = acceptor[state][int(bits[k])]
    return ("more",)


def word_from(acceptor, state):
    return first_bits(
        state,
        lambda at, bit: acceptor[at][bit],
        lambda end: acceptor[end][2] == "whole")


def first_word(acceptor, state):
    """The first bits by length that lead the state to a whole one; None if there are none."""
    need_acceptor(acceptor)
    need_state(acceptor, state)
    return word_from(acceptor, state)


def parted_by(acceptor, state, other_state):
    """The first bits by length that lead the two states to ones of unlike kinds; None for equal states."""
    need_acceptor(acceptor)
    need_state(acceptor, state)
    need_state(acceptor, other_state)
    return first_bits(
        (state, other_state),
        lambda pair, bit: (acceptor[pair[0]][bit], acceptor[pair[1]][bit]),
        lambda both: acceptor[both[0]][2] != acceptor[both[1]][2])


def behind(acceptor, bits):
    """The least acceptor of what makes the bits words when it stands behind them."""
    need_acceptor(acceptor)
    need_bits(bits)
    return least_acceptor(acceptor, state_at(acceptor, 0, bits))


def is_full(acceptor):
    """Whether there is a word and no open state is led to a dead one."""
    need_acceptor(acceptor)
    kinds = [kind for _, _, kind in acceptor]
    if "whole" not in kinds:
        return False
    return all([kinds[zero] != "dead" and kinds[one] != "dead" for zero, one, kind in acceptor if kind == "open"])


def shares(acceptor):
    """The list of the shares of all states."""
    need_acceptor(acceptor)
    return shares_of(acceptor)
