"""Rows of states with steps for both bits, made least: what acceptors and tellers have in common.

Steps of states that are whole, or from which no bits lead to a whole one, are not looked at: they are taken to lead to
one more dead state behind all others.
"""

from termsonwires.kinds import is_list, is_string, is_tuple_of, is_within

KINDS = ("open", "whole", "dead")


def is_kind(value):
    return is_string(value) and value in KINDS


def is_state_row(value, many):
    if not is_tuple_of(value, 3) or not is_kind(value[2]):
        return False
    return is_within(value[0], 0, many - 1) and is_within(value[1], 0, many - 1)


def is_acceptor(value):
    """Whether the value is an acceptor, least or not."""
    return is_list(value) and value != [] and all([is_state_row(row, len(value)) for row in value])


def ahead_of(steps):
    """For each state those that a step leads to it, each one as often as one does."""
    ahead = [[] for _ in steps]
    for state in range(len(steps)):
        for other in steps[state]:
            ahead[other].append(state)
    return ahead


def homing(steps, kinds):
    """The states from which bits lead to a whole one over open ones, whole ones too, the nearest first."""
    ahead = ahead_of([row if kind == "open" else [] for row, kind in zip(steps, kinds)])
    found = [state for state in range(len(kinds)) if kinds[state] == "whole"]
    seen = set(found)
    k = 0
    while k < len(found):
        for state in ahead[found[k]]:
            if state not in seen:
                seen.add(state)
                found.append(state)
        k += 1
    return found


def true_kinds(steps, kinds):
    """The kinds, open ones without a word being dead, and that of the dead state behind all others."""
    found = ["dead"] * (len(kinds) + 1)
    for state in homing(steps, kinds):
        found[state] = kinds[state]
    return found


class Partition:
    """Classes of states: two are in one class if all bits lead them to states with equal marks.

    classes holds for each state the number of its class.
    """

    def __init__(self, marks, steps):
        self.steps = steps
        self.sources = ahead_of(steps)
        self.classes = []
        self.sizes = []
        numbers = {}
        for mark in marks:
            if mark not in numbers:
                numbers[mark] = len(numbers)
                self.sizes.append(0)
            self.classes.append(numbers[mark])
            self.sizes[numbers[mark]] += 1
        moved = list(range(len(marks)))
        while moved:
            moved = self.parted(self.touched(moved))

    def touched(self, moved):
        """The states ahead of those that came to another class, by their class and by those to which they lead."""
        groups = {}
        seen = set()
        for state in moved:
            for before in self.sources[state]:
                if before not in seen:
                    seen.add(before)
                    sign = tuple([self.classes[other] for other in self.steps[before]])
                    groups.setdefault(self.classes[before], {}).setdefault(sign, []).append(before)
        return groups

    def parted(self, groups):
        """Gives each group a class of its own, but for one if all states of the old class are in some group."""
        moved = []
        for old in groups:
            parts = list(groups[old].values())
            if sum([len(part) for part in parts]) == self.sizes[old]:
                parts = sorted(parts, key=len)[:-1]
            for part in parts:
                new = len(self.sizes)
                self.sizes.append(len(part))
                self.sizes[old] -= len(part)
                for state in part:
                    self.classes[state] = new
                moved.extend(part)
        return moved


class Numbering:
    """The classes that are met from the first state on, row by row, zero ahead of one.

    states holds a state of each class met, numbers the number of each class.
    """

    def __init__(self, first, classes, steps):
        self.classes = classes
        self.numbers = {classes[first]: 0}
        self.states = [first]
        k = 0
        while k < len(self.states):
            for other in steps[self.states[k]]:
                if classes[other] not in self.numbers:
                    self.numbers[classes[other]] = len(self.states)
                    self.states.append(other)
            k += 1

    def number_of(self, state):
        return self.numbers[self.classes[state]]


def least_acceptor(rows, first=0):
    """The least acceptor with the words that the rows have from the first state on."""
    sink = len(rows)
    kinds = true_kinds([[zero, one] for zero, one, _ in rows], [kind for _, _, kind in rows])
    steps = [[sink, sink] for _ in kinds]
    for state in range(sink):
        if kinds[state] == "open":
            steps[state] = [rows[state][0], rows[state][1]]
    met = Numbering(first, Partition(kinds, steps).classes, steps)
    return [(met.number_of(steps[state][0]), met.number_of(steps[state][1]), kinds[state]) for state in met.states]


def is_least_acceptor(value):
    """A least acceptor is the only one with its words, and what is made least is one."""
    return is_acceptor(value) and least_acceptor(value) == value


def state_at(rows, state, bits):
    """The state to which the bits lead by the rows of an acceptor."""
    for bit in bits:
        state = rows[state][int(bit)]
    return state
