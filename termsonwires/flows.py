"""Streams at work: words of a code read one behind the other."""

from termsonwires.codedemands import is_held_of
from termsonwires.kinds import is_integer, is_tuple_of
from termsonwires.runs import Run, first_run

FIRST_BITS = 1


def has_words_of_bits(coded):
    """Whether some word of the code has a bit."""
    return coded.lengths[0] > FIRST_BITS


def first_held(coded):
    """The held state ahead of all bits, () if there is none."""
    return first_run(coded).held() if has_words_of_bits(coded) else ()


def new_stream(coded):
    return (0, 0, first_held(coded))


def is_stream_of(coded, value):
    """Whether the value is a stream of the code."""
    if not is_tuple_of(value, 3) or not is_integer(value[0]) or not is_integer(value[1]):
        return False
    if not 0 <= value[0] <= value[1]:
        return False
    return is_tuple_of(value[2], 0) or is_held_of(coded, value[2])


class Flow:
    """A stream that takes bits; run is None if it is dead."""

    def __init__(self, coded, stream):
        self.coded = coded
        self.count = stream[0]
        self.index = stream[1]
        self.run = None
        self.go_on_from(stream[2])

    def go_on_from(self, held):
        self.run = None if held == () else Run(self.coded, held)

    def is_dead(self):
        return self.run is None

    def stream(self):
        return (self.count, self.index, () if self.run is None else self.run.held())

    def take(self, bit):
        """The event that comes with the bit; None if there is none. The stream must not be dead."""
        self.index += 1
        if not self.run.take(bit):
            self.run = None
            return ("dead", self.index)
        if not self.run.is_whole:
            return None
        self.count += 1
        event = ("thing", self.run.value(), self.index)
        self.go_on_from(first_held(self.coded))
        return event


def flow_events(flow, bits):
    """The events that come with the bits."""
    events = []
    for bit in bits:
        if not flow.is_dead():
            event = flow.take(bit)
            if event is not None:
                events.append(event)
    return events
