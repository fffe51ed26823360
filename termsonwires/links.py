"""How entries hang together by refs: which are come to, which stand in rings, which refs are bare."""

from termsonwires.empties import empty_flags


def reached(links, names):
    """The names to which chains of refs lead from these ones, themselves included; links tells those of each entry."""
    found = {}
    waiting = list(names)
    while waiting:
        name = waiting.pop()
        if name not in found:
            found[name] = True
            waiting.extend(links[name])
    return found


def ringed_names(links):
    """The names of the entries in which a ref of a ring stands, ascending as links is."""
    return [name for name in links if name in reached(links, links[name])]


def is_bare_step(term, flags, k):
    """Whether a bare ref can stand in part k of the term; flags tell which parts have the empty word."""
    if term[0] == "row":
        return 0 not in flags[:k]
    if term[0] == "either":
        return term[1][k][1] == ""
    if term[0] in ("counted", "sized"):
        return k == 0 or flags[0] != 0
    return True


def bare_nodes(nodes, flags):
    """For each node whether a ref in its place is bare."""
    bare = [False] * len(nodes.terms)
    for name in nodes.entries:
        bare[nodes.entries[name]] = True
    for node in range(len(nodes.terms)):
        parts = nodes.parts[node]
        inner = [flags[part] for part in parts]
        for k in range(len(parts)):
            bare[parts[k]] = bare[node] and is_bare_step(nodes.terms[node], inner, k)
    return bare


def ref_nodes(nodes, bare):
    """The nodes of refs, with bare True those of bare refs, ascending."""
    refs = [node for node in range(len(nodes.terms)) if nodes.targets[node] is not None]
    if not bare:
        return refs
    marks = bare_nodes(nodes, empty_flags(nodes))
    return [node for node in refs if marks[node]]


def links_by(nodes, refs):
    """Which entries the refs of each entry name, these refs alone counted."""
    links = {name: [] for name in nodes.entries}
    for node in refs:
        links[nodes.homes[node]].append(nodes.terms[node][1])
    return links
