"""Rings of refs, and the levels of sheets that have none."""

from termsonwires.demands import need_place, need_sheet
from termsonwires.errors import Endless
from termsonwires.kinds import is_list
from termsonwires.links import links_by, ref_nodes, ringed_names
from termsonwires.nodes import Nodes
from termsonwires.terms import is_place_of


def distances(links, goal):
    """For each name how many refs lead from it to the goal at least; names without a chain are left out."""
    found = {goal: 0}
    layer = [goal]
    while layer:
        behind = layer
        layer = []
        for name in links:
            if name not in found and any([other in behind for other in links[name]]):
                layer.append(name)
        for name in layer:
            found[name] = found[behind[0]] + 1
    return found


def shortest_ring(nodes, refs, start):
    """The nodes of the ring; None if the first of them leads to no ring."""
    away = distances(links_by(nodes, refs), nodes.homes[start])
    name = nodes.terms[start][1]
    if name not in away:
        return None
    ring_refs = [start]
    while away[name] > 0:
        nearer = [node for node in refs if nodes.homes[node] == name
                  and away.get(nodes.terms[node][1], -1) == away[name] - 1]
        ring_refs.append(nearer[0])
        name = nodes.terms[nearer[0]][1]
    return ring_refs


def ring(sheet, place, bare=False):
    """The shortest, then least ring that begins with the place; None without one."""
    need_sheet(sheet)
    need_place(sheet, place)
    nodes = Nodes(sheet)
    refs = ref_nodes(nodes, bare)
    start = nodes.node_at(place)
    if start not in refs:
        return None
    found = shortest_ring(nodes, refs, start)
    return None if found is None else [nodes.places[node] for node in found]


def is_ring(sheet, value, bare=False):
    """Whether the value is a ring, with bare True one of bare refs."""
    need_sheet(sheet)
    if not is_list(value) or not value or not all([is_place_of(sheet, place) for place in value]):
        return False
    nodes = Nodes(sheet)
    refs = ref_nodes(nodes, bare)
    steps = [nodes.node_at(place) for place in value]
    if not all([node in refs for node in steps]):
        return False
    onward = steps[1:] + steps[:1]
    return all([nodes.terms[one][1] == nodes.homes[other] for one, other in zip(steps, onward)])


def is_flat(sheet):
    """Whether the sheet has no ring."""
    need_sheet(sheet)
    return not ringed_names(Nodes(sheet).links)


def levels(sheet):
    """The list of (name, level): a level is 1 more than the greatest one that its refs come to."""
    need_sheet(sheet)
    nodes = Nodes(sheet)
    ringed = ringed_names(nodes.links)
    if ringed:
        raise Endless(ringed[0])
    found = {}
    for name in nodes.line:
        found[name] = 1 + max([found[other] for other in nodes.links[name]], default=-1)
    return [(name, found[name]) for name in nodes.entries]
