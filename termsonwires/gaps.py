"""How near two words of an acceptor lie, or words of two acceptors."""

from termsonwires.columns import COLUMNS, GOAL, both_open, both_whole, column_steps, distances_left, key_of, node_behind
from termsonwires.columns import open_pairs, open_states, pair_of
from termsonwires.demands import need_acceptor, need_length, need_table
from termsonwires.heighttables import is_height_table_of
from termsonwires.search import SIGNS, least_costs


def gap(acceptor):
    """The least distance of two unlike words of one length; None if there are none."""
    need_acceptor(acceptor)
    found = distances_left(acceptor)
    return found[(0,)][0] if (0,) in found else None


def gap_at(acceptor, length):
    """The least distance of two unlike words of this length; None if there are fewer than two."""
    need_acceptor(acceptor)
    need_length(length)
    steps = column_steps(acceptor)
    layer = {GOAL: 0}
    for _ in range(length):
        longer = {}
        for node in steps:
            costs = [cost + layer[other] for cost, other in steps[node] if other in layer]
            if costs:
                longer[node] = min(costs)
        layer = longer
    return layer.get((0,))


def nearest(acceptor):
    """The nearest two words, (word, other_word); None if there is no gap."""
    need_acceptor(acceptor)
    left = distances_left(acceptor)
    if (0,) not in left:
        return None
    word = ""
    other_word = ""
    node = (0,)
    while node != GOAL:
        column, node = best_column(acceptor, left, node)
        word += SIGNS[column[0]]
        other_word += SIGNS[column[1]]
    return (word, other_word)


def best_column(acceptor, left, node):
    """The first column on a road of the least distance and the fewest bits, and the node behind it."""
    distance, many = left[key_of(node)]
    for column in COLUMNS:
        other = node_behind(acceptor, node, column)
        cost = 1 if column[0] != column[1] else 0
        if other is not None and left.get(key_of(other)) == (distance - cost, many - 1):
            return (column, other)
    return None


def heights(acceptor):
    """The height table that holds with the greatest heights."""
    need_acceptor(acceptor)
    found = distances_left(acceptor)
    return [(p, q, found[(p, q)][0] if (p, q) in found else None) for p, q in open_pairs(acceptor)]


def is_height_table(acceptor, value):
    """Whether the value is a height table of the acceptor that holds."""
    need_acceptor(acceptor)
    return is_height_table_of(acceptor, value)


def worth(acceptor, table):
    """The worth of a height table that holds."""
    need_acceptor(acceptor)
    need_table(acceptor, table)
    told = {(p, q): height for p, q, height in table}
    found = []
    for state in open_states(acceptor):
        zero, one, _ = acceptor[state]
        if both_whole(acceptor, zero, one):
            found.append(0)
        elif both_open(acceptor, zero, one):
            found.append(told[pair_of(zero, one)])
    least = min([height for height in found if height is not None], default=None)
    return None if least is None else least + 1


def apart_steps(acceptor, other_acceptor, pair):
    """The steps (cost, pair) of two readers by columns; GOAL where both words end."""
    found = []
    for one, other in COLUMNS:
        p = acceptor[pair[0]][one]
        q = other_acceptor[pair[1]][other]
        kinds = (acceptor[p][2], other_acceptor[q][2])
        if kinds == ("open", "open"):
            found.append((1 if one != other else 0, (p, q)))
        elif kinds == ("whole", "whole"):
            found.append((1 if one != other else 0, GOAL))
    return found


def apart(acceptor, other_acceptor):
    """The least distance of a word of the one and a word of the other of one length; None if there are none."""
    need_acceptor(acceptor)
    need_acceptor(other_acceptor)
    if acceptor[0][2] == "whole" and other_acceptor[0][2] == "whole":
        return 0
    pairs = [(p, q) for p in open_states(acceptor) for q in open_states(other_acceptor)]
    found = least_costs({pair: apart_steps(acceptor, other_acceptor, pair) for pair in pairs}, GOAL)
    return found[(0, 0)][0] if (0, 0) in found else None
