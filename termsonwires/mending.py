"""Words that fill holes, and the nearest words to damaged bits."""

from termsonwires.demands import need_acceptor, need_bits, need_holed
from termsonwires.search import SIGNS


def goal_marks(acceptor, mark):
    """The mark at whole states, None at all others."""
    return [mark if kind == "whole" else None for _, _, kind in acceptor]


def costs_left(acceptor, bits):
    """For each index of the bits a list: for each state the least distance of the bits from there on from bits that
    lead it to a whole state, None if none do; where a hole stands all bits are at the distance 0."""
    layers = [goal_marks(acceptor, 0)]
    for sign in bits[::-1]:
        behind = layers[-1]
        layer = []
        for zero, one, _ in acceptor:
            costs = [behind[other] + cost for other, cost in ((zero, cost_of(sign, "0")), (one, cost_of(sign, "1")))
                     if behind[other] is not None]
            layer.append(min(costs, default=None))
        layers.append(layer)
    return layers[::-1]


def cost_of(sign, bit):
    return 0 if sign in ("?", bit) else 1


def best_word(acceptor, signs):
    """The least word, as a string, of those at the least distance, and this distance; None if there is no word."""
    layers = costs_left(acceptor, signs)
    if layers[0][0] is None:
        return None
    word = ""
    state = 0
    for k in range(len(signs)):
        left = layers[k][state]
        zero, one, _ = acceptor[state]
        by_zero = layers[k + 1][zero]
        if by_zero is not None and by_zero + cost_of(signs[k], "0") == left:
            word += SIGNS[0]
            state = zero
        else:
            word += SIGNS[1]
            state = one
    return (word, layers[0][0])


def fill(acceptor, holed):
    """The least word that fills the bits with holes; None if there is none."""
    need_acceptor(acceptor)
    need_holed(holed)
    found = best_word(acceptor, holed)
    return found[0] if found is not None and found[1] == 0 else None


def fill_count(acceptor, holed):
    """How many words fill the bits with holes."""
    need_acceptor(acceptor)
    need_holed(holed)
    counts = [1 if kind == "whole" else 0 for _, _, kind in acceptor]
    for sign in holed[::-1]:
        by_zero = 0 if sign == "1" else 1
        by_one = 0 if sign == "0" else 1
        counts = [by_zero * counts[zero] + by_one * counts[one] for zero, one, _ in acceptor]
    return counts[0]


def mend(acceptor, bits):
    """The tuple (word, distance) of the nearest word of as many bits, the least string of these; None if none has."""
    need_acceptor(acceptor)
    need_bits(bits)
    return best_word(acceptor, bits)
