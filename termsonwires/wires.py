"""Wires that lines share: packets of pieces, and links that read them."""

from termsonwires.demands import need_bits
from termsonwires.errors import InvalidCount, InvalidLink, InvalidPieces
from termsonwires.heldtexts import value_of_text
from termsonwires.kinds import is_bits, is_list, is_string, is_tuple_of, is_within
from termsonwires.thingtexts import text_of
from termsonwires.wiring import LinkRun, Wired, is_any_wire, taken_events

MOST_PIECE = 60


def need_most(value):
    if not is_within(value, 1, MOST_PIECE):
        raise InvalidCount("this is no integer from 1 to 60")


def need_link(wired, value):
    if not wired.is_link(value):
        raise InvalidLink("this is no link of the wire")


def is_wire(value):
    """Whether the value is a wire."""
    return is_any_wire(value)


def is_line_row(wired, value):
    """Whether the value is a tuple of the name of a line and bits."""
    return is_tuple_of(value, 2) and is_string(value[0]) and value[0] in wired.names and is_bits(value[1])


def packed(wire, pieces):
    """The bits of the packets of the pieces."""
    wired = Wired(wire)
    if not is_list(pieces):
        raise InvalidPieces(0)
    for k in range(len(pieces)):
        if not is_line_row(wired, pieces[k]) or len(pieces[k][1]) not in wired.sizes:
            raise InvalidPieces(k)
    return "".join([wired.packet(name, bits) for name, bits in pieces])


def need_rows(wired, value):
    """The bits of each line by its name; the value must be rows of unlike lines."""
    if not is_list(value):
        raise InvalidPieces(0)
    rows = {}
    for k in range(len(value)):
        if not is_line_row(wired, value[k]) or value[k][0] in rows:
            raise InvalidPieces(k)
        rows[value[k][0]] = value[k][1]
    return rows


def woven(wire, pieces, most):
    """The pieces of rows that take turns, none of them longer than most."""
    wired = Wired(wire)
    left = need_rows(wired, pieces)
    need_most(most)
    found = []
    while any([bits != "" for bits in left.values()]):
        for name in list(left):
            bits = left[name]
            if bits != "":
                many = max([number for number in wired.sizes if 1 <= number <= min(most, len(bits))])
                found.append((name, bits[:many]))
                left[name] = bits[many:]
    return found


def turn_bits(wire, name, most):
    """The greatest number of bits between two neighbouring packets of the line, if rows are woven."""
    wired = Wired(wire)
    wired.need_line(name)
    need_most(most)
    longest = max([len(wired.sizes[number]) + number for number in wired.sizes if 1 <= number <= most])
    return sum([len(wired.tags[other]) + longest for other in wired.names if other != name])


def linked(wire):
    """The link of no bits."""
    return Wired(wire).new_link()


def feed_link(wire, link, bits):
    """The link behind the bits, and the list of the events that come with them."""
    wired = Wired(wire)
    need_link(wired, link)
    need_bits(bits)
    run = LinkRun(wired, link)
    events = taken_events(run, bits)
    return (run.link(), events)


def is_link(wire, value):
    """Whether the value is a link of the wire."""
    return Wired(wire).is_link(value)


def link_text(wire, link):
    """The value text of the link."""
    need_link(Wired(wire), link)
    return text_of(link)


def link_of(wire, text):
    """The link with this value text."""
    wired = Wired(wire)
    link = value_of_text(text)
    need_link(wired, link)
    return link
