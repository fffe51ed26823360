"""Codes as values: which ones there are, and the acts in them."""

from termsonwires.kinds import is_bits, is_deep_plain, is_string, is_text, is_tuple, is_tuple_of, is_within
from termsonwires.numberwords import MOST_SIZED
from termsonwires.terms import is_machine

RULE_KINDS = ("one", "many")


def inner_acts(act):
    """The acts directly in the act, each with whether it may be a call of a rule of kind "many"; None if it is none.

    Calls are not looked at: they have no acts in them.
    """
    word = act[0]
    many = len(act)
    if word == "put":
        return [] if many == 2 and is_deep_plain(act[1]) else None
    if word == "tuple":
        return acts_in_row(act[1], True) if many == 2 and is_tuple(act[1]) else None
    if word == "label":
        return [(act[2], False)] if many == 3 and is_text(act[1]) else None
    if word == "sized":
        return [(act[2], False)] if many == 3 and is_within(act[1], 0, MOST_SIZED) else None
    if word != "checked" or many != 4 or not is_machine(act[1]):
        return None
    return [(act[3], False)] if is_within(act[2], 0, len(act[1]) - 1) else None


def acts_in_row(acts, may_end_many):
    return [(acts[k], may_end_many and k == len(acts) - 1) for k in range(len(acts))]


def is_call(act, kinds, may_be_many):
    if len(act) != 2 or not is_within(act[1], 0, len(kinds) - 1):
        return False
    return may_be_many or kinds[act[1]] == "one"


def are_acts(acts, kinds, may_end_many):
    """Whether a tuple is one of acts of a code with rules of these kinds."""
    waiting = acts_in_row(acts, may_end_many)
    while waiting:
        act, may_be_many = waiting.pop()
        if not is_tuple(act) or len(act) < 2 or not is_string(act[0]):
            return False
        if act[0] == "call":
            if not is_call(act, kinds, may_be_many):
                return False
        else:
            inner = inner_acts(act)
            if inner is None:
                return False
            waiting.extend(inner)
    return True


def is_code_row(value, kind, kinds):
    if not is_tuple_of(value, 2) or not is_bits(value[0]) or not is_tuple(value[1]):
        return False
    if kind == "one" and len(value[1]) != 1:
        return False
    return are_acts(value[1], kinds, kind == "many")


def has_rule_form(value):
    """Whether the value is a rule, its rows not looked at."""
    return is_tuple_of(value, 2) and is_string(value[0]) and value[0] in RULE_KINDS and is_tuple(value[1])


def is_any_code(value):
    if not is_tuple(value) or value == () or not all([has_rule_form(rule) for rule in value]):
        return False
    kinds = [kind for kind, _ in value]
    return kinds[0] == "one" and all([is_code_row(row, kind, kinds) for kind, rows in value for row in rows])
