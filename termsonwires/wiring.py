"""Wires as values, and links at work: packets read bit by bit, each piece fed to the stream of its line."""

from termsonwires.coded import Coded
from termsonwires.codemaking import made_code
from termsonwires.empties import empty_flags
from termsonwires.errors import InvalidWire, UnknownLine
from termsonwires.faultrows import faultless_table, one_begins_another, sound_table, told_faults
from termsonwires.flows import Flow, is_stream_of, new_stream
from termsonwires.kinds import LETTERS, is_ascending, is_bits, is_integer, is_string, is_tuple, is_tuple_of, is_within
from termsonwires.kinds import with_new_lists
from termsonwires.nodes import Nodes
from termsonwires.numberwords import number_words
from termsonwires.termparts import sheet_of_term
from termsonwires.terms import is_any_sheet, is_any_term, refs_of

MOST_LINES = 4
MOST_LETTERS = 8


def size_words(size):
    """The integers that the size has, with their words; {} for a term that is no number term up to 40."""
    nodes = Nodes(sheet_of_term(("sized", size, ("bits", ""))))
    return number_words(nodes)[nodes.parts[nodes.root][0]]


def is_size(value):
    if not is_any_term(value) or refs_of(value) or told_faults(Nodes(sheet_of_term(value))):
        return False
    return 1 in size_words(value)


def is_line_name(value):
    return is_string(value) and 1 <= len(value) <= MOST_LETTERS and all([sign in LETTERS for sign in value])


def has_word_of_bits(table):
    """A sheet without faults that has the empty word has no other one."""
    root = table.nodes.root
    return table.full[root] != table.sets.none and empty_flags(table.nodes)[root] == 0


def is_line(value):
    if not is_tuple_of(value, 3) or not is_line_name(value[0]) or not is_bits(value[1]) or not is_any_sheet(value[2]):
        return False
    table = faultless_table(Nodes(value[2]))
    return table is not None and has_word_of_bits(table)


def is_any_wire(value):
    if not is_tuple_of(value, 2) or not is_size(value[0]) or not is_tuple(value[1]):
        return False
    if not 1 <= len(value[1]) <= MOST_LINES or not all([is_line(line) for line in value[1]]):
        return False
    if not is_ascending([name for name, _, _ in value[1]]):
        return False
    return not one_begins_another([tag for _, tag, _ in value[1]])


class Wired:
    """A wire with what its links need: the words of the size by integers, tags and codes by the names of the lines."""

    def __init__(self, wire):
        if not is_any_wire(wire):
            raise InvalidWire("this is no wire")
        self.sizes = size_words(wire[0])
        self.size_bits = {self.sizes[number]: number for number in self.sizes}
        self.names = [name for name, _, _ in wire[1]]
        self.tags = {name: tag for name, tag, _ in wire[1]}
        self.sheets = {name: sheet for name, _, sheet in wire[1]}
        self.codes = {name: Coded(made_code(sound_table(sheet))) for name, _, sheet in wire[1]}

    def need_line(self, name):
        if not is_string(name) or name not in self.names:
            raise UnknownLine(with_new_lists(name))

    def packet(self, name, bits):
        return self.tags[name] + self.sizes[len(bits)] + bits

    def new_link(self):
        streams = tuple([new_stream(self.codes[name]) for name in self.names])
        return LinkRun(self, (0, ("tag", ""), streams)).link()

    def is_reading(self, value):
        """Whether the value can be the reading of a link."""
        if not is_tuple(value) or value == () or not is_string(value[0]):
            return False
        if value[0] == "tag":
            return len(value) == 2 and begins_one(value[1], list(self.tags.values()))
        if value[0] == "dead":
            return len(value) == 1
        if len(value) != 3 or not is_string(value[1]) or value[1] not in self.names:
            return False
        if value[0] == "size":
            return begins_one(value[2], list(self.sizes.values()))
        return value[0] == "piece" and is_within(value[2], 1, max(self.sizes))

    def is_link(self, value):
        if not is_tuple_of(value, 3) or not is_integer(value[0]) or value[0] < 0 or not self.is_reading(value[1]):
            return False
        if not is_tuple_of(value[2], len(self.names)):
            return False
        return all([is_stream_of(self.codes[name], stream) for name, stream in zip(self.names, value[2])])


def begins_one(value, words):
    """Whether the value is bits that begin one of the words, but are not all of it."""
    return is_bits(value) and any([word.startswith(value) and word != value for word in words])


class LinkRun:
    """A link at work; flows holds the streams by the names of the lines."""

    def __init__(self, wired, link):
        self.wired = wired
        self.index = link[0]
        self.reading = link[1]
        self.flows = {name: Flow(wired.codes[name], stream) for name, stream in zip(wired.names, link[2])}
        self.go_on()

    def link(self):
        streams = [self.flows[name].stream() for name in self.wired.names]
        return (self.index, self.reading, tuple(streams))

    def is_dead(self):
        return self.reading[0] == "dead"

    def go_on(self):
        """Goes on as far as no bit is needed."""
        moved = True
        while moved:
            moved = False
            if self.reading[0] == "tag":
                names = [name for name in self.wired.names if self.wired.tags[name] == self.reading[1]]
                if names:
                    self.reading = ("size", names[0], "")
                    moved = True
            elif self.reading[0] == "size":
                number = self.wired.size_bits.get(self.reading[2])
                if number is not None:
                    self.reading = ("piece", self.reading[1], number)
                    moved = True
            elif self.reading[0] == "piece" and self.reading[2] == 0:
                self.reading = ("tag", "")
                moved = True

    def take(self, bit):
        """The events that come with the bit; the link must not be dead."""
        self.index += 1
        events = []
        if self.reading[0] == "piece":
            _, name, left = self.reading
            flow = self.flows[name]
            event = None if flow.is_dead() else flow.take(bit)
            if event is not None:
                events.append((name, event, self.index))
            self.reading = ("piece", name, left - 1)
        else:
            self.reading = (*self.reading[:-1], self.reading[-1] + bit)
        self.go_on()
        if not self.wired.is_reading(self.reading):
            self.reading = ("dead",)
            events.append(("", ("dead", self.index), self.index))
        return events

    def reopen(self, name):
        """Opens the stream of a dead line anew; "" lets a dead link read a tag again."""
        if name == "":
            self.reading = ("tag", "")
            self.go_on()
        else:
            self.flows[name] = Flow(self.wired.codes[name], new_stream(self.wired.codes[name]))

    def has_died(self, name):
        return self.is_dead() if name == "" else self.flows[name].is_dead()


def taken_events(run, bits):
    """The events that come with the bits; a dead link takes none."""
    events = []
    for bit in bits:
        if not run.is_dead():
            events.extend(run.take(bit))
    return events
