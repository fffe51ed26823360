"""Readers of trains, of an acceptor with an open state: how they go on, and two of them side by side.

Where two are compared, 0 is told for the whole state, and None for a dead one; both go on from there alike.
"""

from termsonwires.columns import open_states, pair_of
from termsonwires.errors import Unfit
from termsonwires.search import first_bits

SETTLED = (-1, -1)


def need_open(acceptor):
    if open_states(acceptor) == []:
        raise Unfit("the acceptor has no open state")


def going_on(acceptor, state, bit):
    """The state to which the bit leads, the whole one going on as state 0."""
    row = acceptor[0] if acceptor[state][2] == "whole" else acceptor[state]
    return row[bit]


def plain_state(acceptor, state):
    kind = acceptor[state][2]
    if kind == "dead":
        return None
    return 0 if kind == "whole" else state


def plain_step(acceptor, state, bit):
    """The plain state to which the bit leads an open one."""
    return plain_state(acceptor, acceptor[state][bit])


def plain_walk(acceptor, state, bits):
    """The plain state to which the bits lead a plain one."""
    for bit in bits:
        if state is None:
            return None
        state = plain_step(acceptor, state, int(bit))
    return state


def unlike_pairs(acceptor):
    """The tuples (p, q) of open states, p less than q, ascending."""
    states = open_states(acceptor)
    return [(p, q) for p in states for q in states if p < q]


def states_heard_behind(acceptor, states, bit):
    """The ascending list of the alive states to which the bit leads these."""
    behind = sorted(set([going_on(acceptor, state, bit) for state in states]))
    return [state for state in behind if acceptor[state][2] != "dead"]


def heard_states(acceptor, bits):
    """The ascending list of the states in which the bits are heard."""
    states = open_states(acceptor)
    for bit in bits:
        states = states_heard_behind(acceptor, states, int(bit))
    return states


def pair_behind(acceptor, pair, bit):
    """The pair to which the bit leads two unlike open states, the lesser first; SETTLED; None if both are dead."""
    r = plain_step(acceptor, pair[0], bit)
    s = plain_step(acceptor, pair[1], bit)
    if r is None and s is None:
        return None
    return SETTLED if r is None or s is None or r == s else pair_of(r, s)


def settling_bits(acceptor, p, q):
    """The first bits by length that settle the two open states; None if none do."""
    if p == q:
        return None
    return first_bits(
        pair_of(p, q),
        lambda pair, bit: pair_behind(acceptor, pair, bit),
        lambda found: found == SETTLED)


def unsettled_pairs(acceptor):
    return [(p, q) for p, q in unlike_pairs(acceptor) if settling_bits(acceptor, p, q) is None]


def kept_apart(acceptor, pair):
    """The pairs of unlike alive states to which a bit leads the pair, the lesser first."""
    found = []
    for bit in (0, 1):
        r = plain_step(acceptor, pair[0], bit)
        s = plain_step(acceptor, pair[1], bit)
        if r is not None and s is not None and r != s:
            found.append(pair_of(r, s))
    return found


def pair_ranks(acceptor):
    """The least ranks of all pairs of unlike open states; None for a pair that can be kept apart without end."""
    behind = {pair: kept_apart(acceptor, pair) for pair in unlike_pairs(acceptor)}
    ranks = {}
    moved = True
    while moved:
        moved = False
        for pair in behind:
            if pair not in ranks and all([other in ranks for other in behind[pair]]):
                ranks[pair] = 1 + max([ranks[other] for other in behind[pair]], default=0)
                moved = True
    return {pair: ranks.get(pair) for pair in behind}


def greatest_rank(ranks):
    """The greatest of the ranks, 0 without any; None if one of them is None."""
    return None if None in ranks else max(ranks, default=0)


class Chase:
    """Two readers in unlike open states, p the one whose bits are right, that are kept apart as long as can be.

    pairs holds the states in which they have stood, bits what they have read.
    """

    def __init__(self, acceptor, ranks, p, q):
        self.acceptor = acceptor
        self.ranks = ranks
        self.pairs = [(p, q)]
        self.bits = ""

    def step_on(self):
        """Takes a bit that keeps them apart, as long as can be; whether there is one."""
        p, q = self.pairs[-1]
        rank = self.ranks[pair_of(p, q)]
        for bit in (0, 1):
            r = plain_step(self.acceptor, p, bit)
            s = plain_step(self.acceptor, q, bit)
            if r is not None and s is not None and r != s:
                behind = self.ranks[pair_of(r, s)]
                if behind == (None if rank is None else rank - 1):
                    self.pairs.append((r, s))
                    self.bits += "01"[bit]
                    return True
        return False

    def run(self):
        """Goes on to the end; without an end until they stand in a pair for the second time, whose index is told."""
        while self.step_on():
            pair = self.pairs[-1]
            if self.pairs.index(pair) < len(self.pairs) - 1:
                return self.pairs.index(pair)
        return len(self.bits)
