"""Two acceptors side by side, led by the same bits."""

from termsonwires.automata import least_acceptor
from termsonwires.search import first_bits


def pair_on(rows, other_rows, pair, bit):
    return (rows[pair[0]][bit], other_rows[pair[1]][bit])


def kinds_at(rows, other_rows, pair):
    return (rows[pair[0]][2], other_rows[pair[1]][2])


def first_where(rows, other_rows, is_goal):
    """The first bits by length behind which is_goal(kind, other_kind) holds; None if there are none."""
    return first_bits(
        (0, 0),
        lambda pair, bit: pair_on(rows, other_rows, pair, bit),
        lambda both: is_goal(kinds_at(rows, other_rows, both)))


def is_unread_end(kinds):
    return kinds[0] == "whole" and kinds[1] != "whole"


def first_unread(rows, other_rows):
    """The first word of the one by length that is no word of the other."""
    return first_where(rows, other_rows, is_unread_end)


def side_by_side(rows, other_rows, kind_of):
    """The least acceptor of both, kind_of telling the kind of two states by theirs."""
    numbers = {(0, 0): 0}
    pairs = [(0, 0)]
    found = []
    k = 0
    while k < len(pairs):
        steps = []
        for bit in (0, 1):
            behind = pair_on(rows, other_rows, pairs[k], bit)
            if behind not in numbers:
                numbers[behind] = len(pairs)
                pairs.append(behind)
            steps.append(numbers[behind])
        found.append((steps[0], steps[1], kind_of(kinds_at(rows, other_rows, pairs[k]))))
        k += 1
    return least_acceptor(found)
