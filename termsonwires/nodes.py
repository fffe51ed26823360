"""A sheet laid out as numbered nodes, one for each place, so that what is told of terms can stand in lists."""

from termsonwires.terms import parts_of


class Nodes:
    """The nodes of a sheet, numbered in the order of their places.

    terms, places, parts and homes hold for each node its term, its place, the nodes of its parts and the name of
    its entry; targets holds for a ref the node of the entry that it names, for other nodes None. entries holds the
    node of each entry's term, bounds the number behind its last node, links the names in its refs. line holds the
    names, order the nodes, so that parts stand ahead of what they are parts of, and where no ring is in the way
    entries ahead of refs to them; flat tells whether none was in the way anywhere.
    """

    def __init__(self, sheet):
        self.terms = []
        self.places = []
        self.parts = []
        self.homes = []
        self.entries = {}
        self.bounds = {}
        for name, term in sheet[1]:
            self.entries[name] = self.add_term(name, (), term)
            self.bounds[name] = len(self.terms)
        self.root = self.entries[sheet[0]]
        self.targets = [self.entries[term[1]] if term[0] == "ref" else None for term in self.terms]
        self.links = {name: [] for name in self.entries}
        for node in range(len(self.terms)):
            if self.targets[node] is not None:
                self.links[self.homes[node]].append(self.terms[node][1])
        self.line = settling_line(self.links)
        self.flat = all([is_settled(self.links, self.line[:k], self.line[k]) for k in range(len(self.line))])
        self.order = []
        for name in self.line:
            self.order.extend(list(range(self.bounds[name] - 1, self.entries[name] - 1, -1)))

    def add_term(self, name, path, term):
        """The number of the node that the term at this place gets."""
        node = len(self.terms)
        self.terms.append(term)
        self.places.append((name, path))
        self.homes.append(name)
        self.parts.append([])
        parts = parts_of(term)
        for k in range(len(parts)):
            self.parts[node].append(self.add_term(name, (*path, k), parts[k]))
        return node

    def node_at(self, place):
        return self.places.index(place)


def is_settled(links, ahead, name):
    return all([other in ahead for other in links[name]])


def settling_line(links):
    """The names, each behind those in its refs; where rings leave none ready, the first one left goes on."""
    line = []
    left = list(links)
    while left:
        ready = [name for name in left if not any([other in left for other in links[name]])]
        chosen = ready or left[:1]
        line.extend(chosen)
        left = [name for name in left if name not in chosen]
    return line


def settled(nodes, lowest, rule):
    """The least values of all nodes: rule(found, node) tells that of a node by those found so far."""
    found = [lowest] * len(nodes.terms)
    moved = True
    while moved:
        moved = False
        for node in nodes.order:
            value = rule(found, node)
            if value != found[node]:
                found[node] = value
                moved = not nodes.flat
    return found
