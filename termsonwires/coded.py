"""A code with what its rules tell: the lengths of their words, the least ones, and which bits begin their heads."""

from termsonwires.numberwords import MOST_SIZED
from termsonwires.spans import Spans

SPANS_CAP = MOST_SIZED + 1


def calls_in(acts):
    """The numbers of the rules that are called in the acts, at any depth."""
    found = []
    waiting = list(acts)
    while waiting:
        act = waiting.pop()
        if act[0] == "call":
            found.append(act[1])
        elif act[0] == "tuple":
            waiting.extend(act[1])
        elif act[0] != "put":
            waiting.append(act[-1])
    return found


def check_bits(machine):
    """How many bits a check of the machine has."""
    return len(machine[0][2])


class Coded:
    """Keeps a code. lengths holds for each rule the lengths of its words, as Spans keeps them."""

    def __init__(self, code):
        self.code = code
        self.spans = Spans(SPANS_CAP)
        self.callers = [[] for _ in code]
        for number in range(len(code)):
            rows = code[number][1]
            for k in range(len(rows)):
                for called in sorted(set(calls_in(rows[k][1]))):
                    self.callers[called].append((number, k))
        self.row_acts = [[0] * len(rows) for _, rows in code]
        self.lengths = [0] * len(code)
        self.find_lengths()
        self.least = [None] * len(code)
        self.beginnings = {}
        self.heads = {}
        self.rests = {}

    def called_by(self, number):
        """The rules that are called in the acts of the rule."""
        return [called for _, acts in self.code[number][1] for called in calls_in(acts)]

    def act_lengths(self, act, table):
        """The lengths of an act by those of the rules in the table."""
        word = act[0]
        if word == "put":
            return 1
        if word == "call":
            return table[act[1]]
        if word == "tuple":
            return self.acts_lengths(act[1], table)
        inner = self.act_lengths(act[-1], table)
        if word == "sized":
            return self.spans.exactly(inner, act[1])
        return inner if word == "label" else self.spans.with_check(inner, act[1])

    def acts_lengths(self, acts, table):
        total = 1
        for act in acts:
            total = self.spans.chained(total, self.act_lengths(act, table))
        return total

    def find_lengths(self):
        """The least lengths of which none is missing; a row is looked at again when a rule in it has more."""
        waiting = [(number, k) for number in range(len(self.code)) for k in range(len(self.code[number][1]))][::-1]
        due = {place: True for place in waiting}
        while waiting:
            place = waiting.pop()
            due[place] = False
            number, k = place
            head, acts = self.code[number][1][k]
            self.row_acts[number][k] = self.acts_lengths(acts, self.lengths)
            grown = self.lengths[number] | self.spans.ahead(head, self.row_acts[number][k])
            if grown != self.lengths[number]:
                self.lengths[number] = grown
                more = [other for other in self.callers[number] if not due[other]]
                for other in more:
                    due[other] = True
                waiting.extend(more)

    def listed_lengths(self):
        """The least closed table."""
        return [[k for k in range(MOST_SIZED + 1) if row >> k & 1] for row in self.lengths]

    def act_least(self, act):
        """The least length of an act; None if it has no word as far as is known."""
        word = act[0]
        if word == "put":
            return 0
        if word == "call":
            return self.least[act[1]]
        if word == "tuple":
            return self.acts_least(act[1])
        if word == "sized":
            return act[1] if self.act_lengths(act, self.lengths) else None
        inner = self.act_least(act[-1])
        if word == "label" or inner is None:
            return inner
        return inner + check_bits(act[1])

    def acts_least(self, acts):
        total = 0
        for act in acts:
            many = self.act_least(act)
            if many is None:
                return None
            total += many
        return total

    def find_least(self):
        """The least lengths of all rules."""
        moved = True
        while moved:
            moved = False
            for number in range(len(self.code)):
                for head, acts in self.code[number][1]:
                    many = self.acts_least(acts)
                    old = self.least[number]
                    if many is not None and (old is None or len(head) + many < old):
                        self.least[number] = len(head) + many
                        moved = True

    def rest_least(self, number, bits):
        """The least number of bits that the rule still has behind these bits of a head of it."""
        found = []
        for head, acts in self.code[number][1]:
            if head.startswith(bits):
                found.append(len(head) - len(bits) + self.acts_least(acts))
        return min(found)

    def note_heads(self, number):
        if number not in self.heads:
            rows = self.code[number][1]
            self.heads[number] = {rows[k][0]: k for k in range(len(rows))}
            self.beginnings[number] = {head[:k]: True for head, _ in rows for k in range(len(head))}

    def row_of_head(self, number, bits):
        """The number of the row of the rule with this head; None if there is none."""
        self.note_heads(number)
        return self.heads[number].get(bits)

    def goes_on(self, number, bits):
        """Whether a head of the rule is longer than these bits, and begins with them."""
        self.note_heads(number)
        return bits in self.beginnings[number]

    def rest_lengths(self, number, bits, table):
        """The lengths of what the rule still has behind these bits, by the table of the lengths of rules."""
        total = 0
        for head, acts in self.code[number][1]:
            if head.startswith(bits):
                total |= self.acts_lengths(acts, table) << len(head) - len(bits)
        return self.spans.clipped(total)

    def true_rest(self, number, bits):
        """The same by the true lengths."""
        if (number, bits) not in self.rests:
            self.rests[(number, bits)] = self.rest_lengths(number, bits, self.lengths)
        return self.rests[(number, bits)]
