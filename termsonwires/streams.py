"""Streams: words of a code one behind the other, their events, and words relayed to another sheet."""

from termsonwires.applying import given_by, made_ready
from termsonwires.codedemands import need_sound_code
from termsonwires.demands import need_bits, need_map
from termsonwires.errors import InvalidStream, NotCarried, Unfit
from termsonwires.faultrows import sound_table
from termsonwires.flows import Flow, flow_events, has_words_of_bits, is_stream_of, new_stream
from termsonwires.heldtexts import value_of_text
from termsonwires.spelling import thing_word
from termsonwires.thingtexts import text_of


def need_stream(coded, value):
    if not is_stream_of(coded, value):
        raise InvalidStream("this is no stream of the code")


def opened(code):
    """The stream of no bits."""
    coded = need_sound_code(code)
    if not has_words_of_bits(coded):
        raise Unfit("no word of the code has a bit")
    return new_stream(coded)


def fed(code, stream, bits):
    """The stream behind the bits, and the list of the events that come with them."""
    coded = need_sound_code(code)
    need_stream(coded, stream)
    need_bits(bits)
    flow = Flow(coded, stream)
    events = flow_events(flow, bits)
    return (flow.stream(), events)


def is_stream(code, value):
    """Whether the value is a stream of the code."""
    return is_stream_of(need_sound_code(code), value)


def stream_text(code, stream):
    """The value text of the stream."""
    need_stream(need_sound_code(code), stream)
    return text_of(stream)


def stream_of(code, text):
    """The stream with this value text."""
    coded = need_sound_code(code)
    stream = value_of_text(text)
    need_stream(coded, stream)
    return stream


def relayed(code, mapping, other_sheet, stream, bits):
    """The stream behind the bits, and the words in the other sheet of what the map gives for the things told."""
    coded = need_sound_code(code)
    need_map(mapping)
    nodes = sound_table(other_sheet).nodes
    need_stream(coded, stream)
    need_bits(bits)
    flow = Flow(coded, stream)
    things = [event[1] for event in flow_events(flow, bits) if event[0] == "thing"]
    ready = made_ready(mapping)
    words = []
    for number in range(len(things)):
        given = given_by(ready, things[number])
        word = None if given is None else thing_word(nodes, nodes.root, given)
        if word is None:
            raise NotCarried(number)
        words.append(word)
    return (flow.stream(), "".join(words))
