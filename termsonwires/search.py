"""Roads over nodes, a bit for each step: the first ones by length, the cheapest ones."""

from heapq import heappop, heappush

SIGNS = "01"


def bits_to(ahead, node):
    """The bits of the road to the node; ahead has for each node the one ahead of it and the bit, None at the start."""
    bits = ""
    while ahead[node] is not None:
        node, bit = ahead[node]
        bits = SIGNS[bit] + bits
    return bits


def first_bits(start, onward, is_goal):
    """The first bits by length that lead from the start to a goal; None if there are none.

    onward(node, bit) tells the node to which the bit leads, or None.
    """
    ahead = {start: None}
    waiting = [start]
    k = 0
    while k < len(waiting):
        node = waiting[k]
        k += 1
        if is_goal(node):
            return bits_to(ahead, node)
        for bit in (0, 1):
            other = onward(node, bit)
            if other is not None and other not in ahead:
                ahead[other] = (node, bit)
                waiting.append(other)
    return None


def least_costs(steps, goal):
    """For each node with a road to the goal the least (cost, number of steps) of one; dicts by nodes.

    steps has for each node the list of its (cost, other node); costs are integers from 0 on.
    """
    ahead = {node: [] for node in [*steps, goal]}
    for node in steps:
        for cost, other in steps[node]:
            ahead[other].append((cost, node))
    found = {}
    waiting = [(0, 0, goal)]
    while waiting:
        cost, many, node = heappop(waiting)
        if node not in found:
            found[node] = (cost, many)
            for more, other in ahead[node]:
                if other not in found:
                    heappush(waiting, (cost + more, many + 1, other))
    return found
