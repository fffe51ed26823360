"""Spots: parts of words told by indexes, and whether sizes alone tell where they begin."""

from termsonwires.errors import InvalidSpot, InvalidThing, NoSpot, NotFixed
from termsonwires.faultrows import sound_table
from termsonwires.kinds import is_path
from termsonwires.prices import thing_of_word
from termsonwires.routes import Routes, stretches_of, witness_table
from termsonwires.spelling import spelled


def need_spot(value):
    if not is_path(value):
        raise InvalidSpot("this is no tuple of integers from 0 on")


class Found:
    """A part of a word: its spelling, the index at which it begins, and the sizes along the spot."""

    def __init__(self, spelling, start, sizes):
        self.spelling = spelling
        self.start = start
        self.sizes = sizes


def past_refs(nodes, spelling):
    while nodes.targets[spelling.node] is not None:
        spelling = spelling.parts[0]
    return spelling


def place_in_parts(term, spelling, index):
    """The number among the parts of the spelling to which the index leads; None if it leads to none."""
    word = term[0]
    if word == "either":
        return 0 if index < len(term[1]) and term[1][index][0] == spelling.thing[0] else None
    if word == "sized":
        return 1 if index == 1 else None
    place = index + 1 if word == "counted" else index
    return place if place < len(spelling.parts) else None


def own_bits(term, spelling):
    """How many bits stand ahead of the parts."""
    if term[0] != "either":
        return 0
    return len(spelling.word) - len(spelling.parts[0].word)


def sizes_ahead(nodes, parts):
    """The lengths inside of those parts that are sized."""
    inner = [past_refs(nodes, part) for part in parts]
    return [len(part.parts[1].word) for part in inner if nodes.terms[part.node][0] == "sized"]


def step_on(nodes, found, index):
    """The part to which one index more leads; None if there is none."""
    spelling = past_refs(nodes, found.spelling)
    term = nodes.terms[spelling.node]
    place = place_in_parts(term, spelling, index)
    if place is None:
        return None
    start = found.start + own_bits(term, spelling) + sum([len(part.word) for part in spelling.parts[:place]])
    sizes = list(found.sizes)
    if term[0] == "sized":
        sizes.append(len(spelling.parts[1].word))
    else:
        sizes.extend(sizes_ahead(nodes, spelling.parts[1 if term[0] == "counted" else 0:place]))
    return Found(spelling.parts[place], start, sizes)


def found_part(sheet, thing, spot):
    """The part of the word of the thing at the spot."""
    nodes = sound_table(sheet).nodes
    spelling = spelled(nodes, nodes.root, thing)
    if spelling is None:
        raise InvalidThing("this is no thing of the sheet")
    need_spot(spot)
    found = Found(spelling, 0, [])
    for index in spot:
        found = step_on(nodes, found, index)
        if found is None:
            raise NoSpot("the thing has no such spot")
    return found


def spot_stretch(sheet, thing, spot):
    """Where the word of the part begins and ends."""
    found = found_part(sheet, thing, spot)
    return (found.start, found.start + len(found.spelling.word))


def spot_thing(sheet, thing, spot):
    """The thing of the part."""
    return found_part(sheet, thing, spot).spelling.thing


def spot_sizes(sheet, thing, spot):
    """The sizes along the spot."""
    return tuple(found_part(sheet, thing, spot).sizes)


def routes_of(table, spot):
    """The routes of the spot; None if no thing has it."""
    stretches = stretches_of(witness_table(table), spot)
    if stretches is None:
        return None
    routes = Routes(stretches)
    return routes if routes.is_had() else None


def two_places(sheet, spot):
    """Two things with the spot, equal sizes and unlike starts; None if it is fixed."""
    table = sound_table(sheet)
    need_spot(spot)
    routes = routes_of(table, spot)
    if routes is None:
        raise NoSpot("no thing has the spot")
    words = routes.two_words()
    return None if words is None else tuple([thing_of_word(table, word) for word in words])


def place_by(sheet, spot, sizes):
    """Where the part begins in all things with these sizes."""
    table = sound_table(sheet)
    need_spot(spot)
    routes = routes_of(table, spot)
    if routes is not None and routes.two_words() is not None:
        raise NotFixed("things with equal sizes have the spot at unlike indexes")
    start = None if routes is None else routes.start_by(sizes)
    if start is None:
        raise NoSpot("no thing with the spot has these sizes")
    return start
