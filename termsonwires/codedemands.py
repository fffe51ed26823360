"""The errors that functions raise for codes and held states."""

from termsonwires.acting import is_any_code
from termsonwires.coded import Coded
from termsonwires.errors import InvalidCode, InvalidHeld, UnsoundCode
from termsonwires.faultrows import one_begins_another
from termsonwires.heldforms import is_held_of


def need_code(value):
    """The code with what its rules tell."""
    if not is_any_code(value):
        raise InvalidCode("this is no code")
    return Coded(value)


def has_beginning(rows):
    return one_begins_another([head for head, _ in rows])


def first_beginning(rows):
    """The first two rows of which the head of one begins that of the other."""
    heads = [head for head, _ in rows]
    for k in range(len(heads)):
        for j in range(k + 1, len(heads)):
            if heads[j].startswith(heads[k]) or heads[k].startswith(heads[j]):
                return (k, j)
    return None


def first_code_fault(coded):
    code = coded.code
    for number in range(len(code)):
        if has_beginning(code[number][1]):
            return ("begins", number, *first_beginning(code[number][1]))
    for number in range(len(code)):
        for k in range(len(code[number][1])):
            if coded.row_acts[number][k] == 0:
                return ("endless", number, k)
    return None


def need_sound_code(value):
    coded = need_code(value)
    if first_code_fault(coded) is not None:
        raise UnsoundCode("the code has a fault")
    return coded


def need_held(coded, value):
    if not is_held_of(coded, value):
        raise InvalidHeld("this is no held state that fits the code")
