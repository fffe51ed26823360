"""Tellers made least: what they say is said as early as can be."""

from termsonwires.automata import Numbering, Partition, homing, is_kind, true_kinds
from termsonwires.kinds import is_list, is_string, is_tuple_of, is_within


def is_said_step(value, many):
    return is_tuple_of(value, 2) and is_within(value[0], 0, many - 1) and is_string(value[1])


def is_said_row(value, many):
    if not is_tuple_of(value, 3) or not is_kind(value[2]):
        return False
    return is_said_step(value[0], many) and is_said_step(value[1], many)


def is_teller(value):
    """Whether the value is a teller, least or not."""
    if not is_tuple_of(value, 2) or not is_string(value[0]) or not is_list(value[1]) or value[1] == []:
        return False
    return all([is_said_row(row, len(value[1])) for row in value[1]])


def bare_rows(rows):
    """The rows of an acceptor that are those of the teller without what is said."""
    return [(zero[0], one[0], kind) for zero, one, kind in rows]


def shared_start(one, other):
    """The longest common beginning, halved in."""
    if other.startswith(one):
        return one
    least = 0
    most = min(len(one), len(other))
    while least < most:
        middle = (least + most + 1) // 2
        if one[:middle] == other[:middle]:
            least = middle
        else:
            most = middle - 1
    return one[:least]


def first_rests(order, kinds, steps):
    """For each state from which bits lead to a whole one what one such rest says."""
    found = {}
    for state in order:
        if kinds[state] == "whole":
            found[state] = ""
        else:
            other, text = [step for step in steps[state] if step[0] in found][0]
            found[state] = text + found[other]
    return found


def beginnings(kinds, steps):
    """For each state the longest common beginning of what its rests say; "" for whole and dead ones.

    What one rest says is cut until it begins whatever the steps say.
    """
    order = homing([[other for other, _ in row] for row in steps], kinds)
    found = first_rests(order, kinds, steps)
    moved = True
    while moved:
        moved = False
        for state in order:
            text = found[state]
            for other, said in steps[state]:
                if kinds[other] != "dead":
                    text = shared_start(text, said + found[other])
            if text != found[state]:
                found[state] = text
                moved = True
    return [found.get(state, "") for state in range(len(kinds))]


def live_steps_of(rows, kinds):
    """The steps of open states, all others leading to the dead state behind all rows; nothing is said with these."""
    sink = (len(rows), "")
    steps = [(sink, sink) for _ in kinds]
    for state in range(len(rows)):
        if kinds[state] == "open":
            zero, one, _ = rows[state]
            steps[state] = (sink if kinds[zero[0]] == "dead" else zero, sink if kinds[one[0]] == "dead" else one)
    return steps


def least_teller(start, rows, first=0):
    """The least teller that says for its words what the rows say from the first state on, behind the start."""
    bare = bare_rows(rows)
    kinds = true_kinds([[zero, one] for zero, one, _ in bare], [kind for _, _, kind in bare])
    steps = live_steps_of(rows, kinds)
    early = beginnings(kinds, steps)
    said = [tuple([(text + early[other])[len(early[state]):] for other, text in steps[state]])
            for state in range(len(kinds))]
    bare_steps = [[other for other, _ in row] for row in steps]
    marks = [(kind, *texts) for kind, texts in zip(kinds, said)]
    met = Numbering(first, Partition(marks, bare_steps).classes, bare_steps)
    found = []
    for state in met.states:
        zero, one = bare_steps[state]
        zero_text, one_text = said[state]
        found.append(((met.number_of(zero), zero_text), (met.number_of(one), one_text), kinds[state]))
    return ("" if kinds[first] == "dead" else start + early[first], found)


def is_least_teller_value(value):
    """A least teller is the only one that says the same for the same words, and what is made least is one."""
    return is_teller(value) and least_teller(value[0], value[1]) == value
