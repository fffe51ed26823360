"""Two readers of one acceptor side by side, a column of two bits for each step.

Nodes: (p,) while both have read the same bits and stand in the open state p; (p, q), p not greater than q, when they
have read unlike bits and stand in these open states; () when both have ended with unlike words.
"""

from termsonwires.search import least_costs

COLUMNS = ((0, 0), (0, 1), (1, 0), (1, 1))
GOAL = ()


def open_states(acceptor):
    return [state for state in range(len(acceptor)) if acceptor[state][2] == "open"]


def open_pairs(acceptor):
    """The tuples (p, q) of open states, p not greater than q, ascending."""
    states = open_states(acceptor)
    return [(p, q) for p in states for q in states if p <= q]


def pair_of(p, q):
    return (p, q) if p <= q else (q, p)


def both_open(acceptor, p, q):
    return acceptor[p][2] == "open" and acceptor[q][2] == "open"


def both_whole(acceptor, p, q):
    return acceptor[p][2] == "whole" and acceptor[q][2] == "whole"


def node_behind(acceptor, node, column):
    """The node to which the column leads, states in the order of the words; None if there is none."""
    one, other = column
    p = acceptor[node[0]][one]
    if len(node) == 1 and one == other:
        return (p,) if acceptor[p][2] == "open" else None
    q = acceptor[node[-1]][other]
    if both_open(acceptor, p, q):
        return (p, q)
    return GOAL if both_whole(acceptor, p, q) else None


def key_of(node):
    """Pairs are looked up with the lesser state first."""
    return pair_of(node[0], node[1]) if len(node) == 2 else node


def steps_from(acceptor, node):
    """The list of (1 if the column has unlike bits, else 0; the node behind it)."""
    found = []
    for column in COLUMNS:
        other = node_behind(acceptor, node, column)
        if other is not None:
            found.append((1 if column[0] != column[1] else 0, key_of(other)))
    return found


def column_steps(acceptor):
    """For each node but the goal its steps."""
    nodes = open_pairs(acceptor) + [(p,) for p in open_states(acceptor)]
    return {node: steps_from(acceptor, node) for node in nodes}


def distances_left(acceptor):
    """For each node from which both come to an end with unlike words the least (distance, number of bits) to there."""
    return least_costs(column_steps(acceptor), GOAL)
