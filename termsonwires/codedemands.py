"""Held states as values: which ones fit a code; and the errors that functions raise for codes and held states."""

from termsonwires.acting import are_acts, is_any_code
from termsonwires.coded import Coded
from termsonwires.errors import InvalidCode, InvalidHeld, UnsoundCode
from termsonwires.faultrows import one_begins_another
from termsonwires.kinds import is_bits, is_deep_plain, is_string, is_text, is_tuple, is_tuple_of, is_within
from termsonwires.numberwords import MOST_SIZED
from termsonwires.runs import Run
from termsonwires.terms import is_machine


def is_frame_kind(value):
    if not is_tuple(value) or value == () or not is_string(value[0]):
        return False
    if value[0] == "label":
        return len(value) == 2 and is_text(value[1])
    if value[0] == "sized":
        return len(value) == 2 and is_within(value[1], 0, MOST_SIZED)
    if value[0] == "checked":
        return len(value) == 3 and is_machine(value[1]) and is_within(value[2], 0, len(value[1]) - 1)
    return len(value) == 1 and value[0] in ("whole", "tuple")


def is_frame(value, kinds):
    """Whether the value is a frame; how many things it has is not looked at."""
    if not is_tuple_of(value, 3) or not is_frame_kind(value[0]) or not is_tuple(value[1]) or not is_tuple(value[2]):
        return False
    if value[0][0] != "tuple":
        return value[2] == () and is_deep_plain(value[1])
    return is_deep_plain(value[1]) and are_acts(value[2], kinds, True)


def are_frames(value, kinds):
    """Whether the value is a tuple of frames of which the first one alone is of kind whole."""
    if not is_tuple(value) or value == () or not all([is_frame(frame, kinds) for frame in value]):
        return False
    return [k for k in range(len(value)) if value[k][0][0] == "whole"] == [0]


def has_right_things(frames, reading):
    """Whether no frame but tuples has things, and the one that reads a check has one."""
    many = [len(things) for kind, things, _ in frames if kind[0] != "tuple"]
    if reading[0] == "check":
        return many[-1] == 1 and sum(many) == 1
    return sum(many) == 0


def is_reading(coded, frames, value):
    """Whether the value tells what is read in the innermost frame."""
    if not is_tuple(value) or len(value) < 2 or not is_string(value[0]) or not is_bits(value[-1]):
        return False
    kind, _, acts = frames[-1]
    if value[0] == "check":
        if len(value) != 2 or value[1] == "" or kind[0] != "checked":
            return False
        return kind[1][kind[2]][2].endswith(value[1])
    if value[0] != "rule" or len(value) != 3 or not is_within(value[1], 0, len(coded.code) - 1):
        return False
    if coded.code[value[1]][0] == "many" and (kind[0] != "tuple" or acts != ()):
        return False
    return coded.goes_on(value[1], value[2])


def is_held_of(coded, value):
    """Whether the value is a held state that fits the code."""
    kinds = [kind for kind, _ in coded.code]
    if not is_tuple_of(value, 2) or not are_frames(value[0], kinds) or not is_reading(coded, value[0], value[1]):
        return False
    return has_right_things(value[0], value[1]) and Run(coded, value).unfilled_frames(coded.lengths) == []


def need_code(value):
    """The code with what its rules tell."""
    if not is_any_code(value):
        raise InvalidCode("this is no code")
    return Coded(value)


def has_beginning(rows):
    return one_begins_another([head for head, _ in rows])


def first_beginning(rows):
    """The first two rows of which the head of one begins that of the other."""
    heads = [head for head, _ in rows]
    for k in range(len(heads)):
        for j in range(k + 1, len(heads)):
            if heads[j].startswith(heads[k]) or heads[k].startswith(heads[j]):
                return (k, j)
    return None


def first_code_fault(coded):
    code = coded.code
    for number in range(len(code)):
        if has_beginning(code[number][1]):
            return ("begins", number, *first_beginning(code[number][1]))
    for number in range(len(code)):
        for k in range(len(code[number][1])):
            if coded.row_acts[number][k] == 0:
                return ("endless", number, k)
    return None


def need_sound_code(value):
    coded = need_code(value)
    if first_code_fault(coded) is not None:
        raise UnsoundCode("the code has a fault")
    return coded


def need_held(coded, value):
    if not is_held_of(coded, value):
        raise InvalidHeld("this is no held state that fits the code")
