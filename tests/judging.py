"""A second, plain judgement of sheets: rings, bare refs and faults, by the words of the oracle and by search."""

import itertools

from tests import oracle


def refs_of(sheet):
    return [place for place in oracle.all_places(sheet) if oracle.at_place(sheet, place)[0] == "ref"]


def named(sheet, place):
    return oracle.at_place(sheet, place)[1]


def term_words(sheet, place, most, rounds=None):
    """The things of the term at the place with their words."""
    term = oracle.at_place(sheet, place)
    return oracle.words(("0", sheet[1] + (("0", term),)), most, rounds)


def has_empty(sheet, place):
    return "" in term_words(sheet, place, 0, 8).values()


def is_bare(sheet, place):
    name, path = place
    for k in range(len(path)):
        around = oracle.at_place(sheet, (name, path[:k]))
        if around[0] == "row":
            if not all(has_empty(sheet, (name, path[:k] + (j,))) for j in range(path[k])):
                return False
        elif around[0] == "either":
            if around[1][path[k]][1] != "":
                return False
        elif around[0] in ("counted", "sized") and path[k] == 1:
            if not has_empty(sheet, (name, path[:k] + (0,))):
                return False
    return True


def rings_from(sheet, refs, place, most):
    """All rings of at most so many places that begin with this one."""
    found, roads = [], [[place]] if place in refs else []
    for _ in range(most):
        longer = []
        for road in roads:
            if named(sheet, road[-1]) == place[0]:
                found.append(road)
            longer += [road + [ref] for ref in refs if ref[0] == named(sheet, road[-1])]
        roads = longer
    return found


def come_to(sheet, refs, names):
    found = set(names)
    while True:
        more = {named(sheet, ref) for ref in refs if ref[0] in found} - found
        if not more:
            return found
        found |= more


def in_ring(sheet, refs, ref):
    return ref[0] in come_to(sheet, refs, [named(sheet, ref)])


def is_number(sheet, term, most, seen=()):
    if term[0] == "table":
        return all(type(atom) is int and 0 <= atom <= most for atom, _ in term[1])
    if term[0] == "width":
        return 2 ** term[1] - 1 <= most
    if term[0] in ("sized", "checked"):
        return is_number(sheet, term[2], most, seen)
    return term[0] == "ref" and term[1] not in seen and is_number(sheet, dict(sheet[1])[term[1]], most, seen + (term[1],))


def first_row(sheet):
    found = set()
    refs = refs_of(sheet)
    for name, path in oracle.all_places(sheet):
        term = oracle.at_place(sheet, (name, path))
        if term[0] == "counted" and not is_number(sheet, term[1], 8) or term[0] == "sized" and not is_number(sheet, term[1], 40):
            found.add((name, path, "number"))
        if term[0] in ("table", "either"):
            if any(a.startswith(b) for a, b in itertools.permutations([row[1] for row in term[1]], 2)):
                found.add((name, path, "tags"))
        if term[0] == "checked":
            inner = [ref for ref in refs if ref[0] == name and ref[1][:len(path)] == path]
            names = come_to(sheet, refs, [named(sheet, ref) for ref in inner])
            if any(in_ring(sheet, refs, ref) for ref in refs if ref in inner or ref[0] in names):
                found.add((name, path, "check"))
    return found


def second_row(sheet):
    bare = [ref for ref in refs_of(sheet) if is_bare(sheet, ref)]
    found = {ref + ("loop",) for ref in bare if in_ring(sheet, bare, ref)}
    for name, path in oracle.all_places(sheet):
        if oracle.at_place(sheet, (name, path))[0] == "until" and has_empty(sheet, (name, path + (0,))):
            found.add((name, path, "empty"))
    return found


def third_row(sheet, most):
    """By the words of at most so many bits; a fault by longer words alone is missed."""
    found = set()
    for name, path in oracle.all_places(sheet):
        term = oracle.at_place(sheet, (name, path))
        if term[0] == "until":
            for word in term_words(sheet, (name, path + (0,)), most).values():
                if word.startswith(term[1]):
                    found.add((name, path, "mark"))
                elif term[1].startswith(word):
                    found.add((name, path, "early"))
    return found


def faults(sheet, most=7):
    return sorted(first_row(sheet) or second_row(sheet) or third_row(sheet, most))
