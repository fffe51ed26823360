"""Codes: rules of heads and acts that read bits as things, the lengths of their words, and their paces."""

from termsonwires.acting import is_any_code
from termsonwires.codedemands import first_code_fault, need_code, need_sound_code
from termsonwires.codemaking import made_code
from termsonwires.faultrows import sound_table
from termsonwires.kinds import is_ascending, is_integer, is_list, is_tuple, is_tuple_of, is_within
from termsonwires.numberwords import MOST_SIZED


def is_code(value):
    """Whether the value is a code."""
    return is_any_code(value)


def code_fault(code):
    """The first code fault; None if there is none."""
    return first_code_fault(need_code(code))


def code_of(sheet):
    """A code of the sheet."""
    return made_code(sound_table(sheet))


def rule_lengths(code):
    """The least closed length table."""
    return need_code(code).listed_lengths()


def is_length_row(value):
    if not is_list(value) or not all([is_within(length, 0, MOST_SIZED) for length in value]):
        return False
    return is_ascending(value)


def table_of_lengths(coded, value):
    """The lengths of the rules by a closed length table, as Spans keeps them; None if the value is none."""
    if not is_list(value) or len(value) != len(coded.code) or not all([is_length_row(row) for row in value]):
        return None
    table = [sum([1 << length for length in row]) for row in value]
    for number in range(len(table)):
        for head, acts in coded.code[number][1]:
            found = coded.spans.ahead(head, coded.acts_lengths(acts, table)) & coded.spans.below
            if found & table[number] != found:
                return None
    return table


def are_lengths(code, value):
    """Whether the value is a closed length table of the code."""
    return table_of_lengths(need_code(code), value) is not None


def act_weight(act, weights):
    """What an act weighs by the weights of the rules."""
    total = 0
    waiting = [act]
    while waiting:
        inner = waiting.pop()
        if inner[0] == "put":
            total += 1
        elif inner[0] == "call":
            total += weights[inner[1]]
        else:
            total += 2
            waiting.extend(inner[1] if inner[0] == "tuple" else inner[-1:])
    return total


def row_weight(acts, weights):
    return 1 + sum([act_weight(act, weights) for act in acts])


def heavy_rules(coded):
    """The rules with the head "", each behind those that its one row calls; a sound code has no ring of them."""
    found = []
    left = [k for k in range(len(coded.code)) if coded.row_of_head(k, "") is not None]
    while left:
        waiting = [k for k in left if any([called in left for called in coded.called_by(k)])]
        found.extend([k for k in left if k not in waiting])
        left = waiting
    return found


def pace(code):
    """A pace of the code: rules whose row has no head weigh what it weighs, the others nothing."""
    coded = need_sound_code(code)
    weights = [0] * len(coded.code)
    for number in heavy_rules(coded):
        weights[number] = row_weight(coded.code[number][1][0][1], weights)
    per_bit = 0
    for number in range(len(coded.code)):
        for head, acts in coded.code[number][1]:
            if head != "":
                per_bit = max(per_bit, -(-row_weight(acts, weights) // len(head)))
    return (per_bit, tuple(weights))


def is_row_paced(head, acts, own, per_bit, weights):
    return row_weight(acts, weights) <= own + per_bit * len(head)


def is_pace(code, value):
    """Whether the value is a pace of the code."""
    coded = need_code(code)
    if not is_tuple_of(value, 2) or not is_tuple(value[1]) or len(value[1]) != len(coded.code):
        return False
    if not all([is_integer(number) and number >= 0 for number in [value[0], *value[1]]]):
        return False
    per_bit, weights = value
    rows = [(head, acts, weights[k]) for k in range(len(weights)) for head, acts in coded.code[k][1]]
    return all([is_row_paced(head, acts, own, per_bit, weights) for head, acts, own in rows])
