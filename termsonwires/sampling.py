"""Samples of what the rules of a code give, by words of one length, and by all words."""

from termsonwires.batches import Batch, batch_of_thing, chained, empty_batch, in_tuple, note_batch, wrapped
from termsonwires.coded import check_bits
from termsonwires.solver import Solver


def lengths_in(mask, most):
    return [k for k in range(most + 1) if mask >> k & 1]


class ExactSamples(Solver):
    """The batches of words of just so many bits, at most 40, by (rule, length)."""

    def __init__(self, coded):
        super().__init__()
        self.coded = coded

    def mask_of(self, act):
        return self.coded.act_lengths(act, self.coded.lengths)

    def attempt(self, key):
        number, length = key
        rows = self.coded.code[number][1]
        ready = [self.is_ready(act, length - len(head)) for head, acts in rows for act in acts]
        if not all(ready):
            return None
        found = Batch([], [])
        for k in range(len(rows)):
            head, acts = rows[k]
            left = length - len(head)
            if left >= 0 and self.coded.row_acts[number][k] >> left & 1:
                found.note_all(head, self.acts_batches(acts, [left])[left].samples)
        return found

    def is_ready(self, act, most):
        """Whether the batches that the act asks for are there; those that are not are noted as wanted."""
        if act[0] == "put" or most < 0:
            return True
        if act[0] == "call":
            return all([self.ask((act[1], k)) is not None for k in lengths_in(self.mask_of(act), most)])
        if act[0] == "tuple":
            return all([self.is_ready(inner, most) for inner in act[1]])
        if act[0] == "sized":
            return act[1] > most or self.is_ready(act[2], act[1])
        return self.is_ready(act[-1], most)

    def rule_batch(self, key):
        return self.cells[key] if key in self.cells else self.solve(key)

    def act_batches(self, act, lengths):
        """A dict from those of the lengths that the act has to its batches."""
        mask = self.mask_of(act)
        had = [k for k in lengths if k >= 0 and mask >> k & 1]
        word = act[0]
        if word == "put":
            return {k: batch_of_thing(act[1]) for k in had}
        if word == "call":
            return {k: self.rule_batch((act[1], k)) for k in had}
        if word == "tuple":
            found = self.acts_batches(act[1], had)
            return {k: in_tuple(found[k]) for k in found}
        if word == "sized":
            return self.act_batches(act[2], had)
        more = 0 if word == "label" else check_bits(act[1])
        inner = self.act_batches(act[-1], [k - more for k in had])
        return {k + more: wrapped(act, inner[k]) for k in inner}

    def acts_batches(self, acts, lengths):
        """A dict from those of the lengths that the acts, one behind the other, have to their batches."""
        return self.with_acts({0: empty_batch()}, acts, lengths)

    def with_acts(self, found, acts, lengths):
        """The batches with acts behind them; only what leads to a wanted length is kept."""
        wanted = sum([1 << k for k in lengths])
        for k in range(len(acts)):
            behind = self.coded.acts_lengths(acts[k + 1:], self.coded.lengths)
            found = self.with_act(found, acts[k], [wanted, behind])
        return {length: found[length] for length in found if wanted >> length & 1}

    def with_act(self, found, act, limits):
        wanted, behind = limits
        most = wanted.bit_length() - 1
        mask = self.mask_of(act)
        pairs = [(used, more) for used in found for more in lengths_in(mask, most - used)]
        fitting = [(used, more) for used, more in pairs if behind << used + more & wanted]
        batches = self.act_batches(act, sorted({more for _, more in fitting}))
        grown = {}
        for used, more in fitting:
            note_batch(grown, used + more, chained(found[used], batches[more]))
        return grown


def free_calls(acts):
    """The numbers of the rules that are called in the acts; what is sized is told by its length alone."""
    found = []
    waiting = list(acts)
    while waiting:
        act = waiting.pop()
        if act[0] == "call":
            found.append(act[1])
        elif act[0] == "tuple":
            waiting.extend(act[1])
        elif act[0] in ("label", "checked"):
            waiting.append(act[-1])
    return found


def rules_behind(code, acts):
    """The rules that are called in the acts, or in rows of these rules, ascending."""
    found = {}
    waiting = free_calls(acts)
    while waiting:
        number = waiting.pop()
        if number not in found:
            found[number] = True
            for _, inner in code[number][1]:
                waiting.extend(free_calls(inner))
    return sorted(found)


class FreeSamples:
    """The batches of all words of the rules that some acts ask for; the code is sound, so each row has a word.

    They grow from the least word of each rule until nothing is added.
    """

    def __init__(self, coded, acts):
        self.coded = coded
        self.exact = ExactSamples(coded)
        self.batches = {number: Batch([], []) for number in rules_behind(coded.code, acts)}
        coded.find_least()
        waiting = list(self.batches)
        while waiting:
            for number in waiting:
                self.start_rule(number)
            waiting = [number for number in waiting if self.batches[number].samples == []]
        self.grow()

    def start_rule(self, number):
        """The least word of the rule, if those of the rules that it calls are there."""
        for head, acts in self.coded.code[number][1]:
            many = self.coded.acts_least(acts)
            if len(head) + many == self.coded.least[number] and self.are_started(acts):
                self.batches[number].note_all(head, self.acts_batch(acts).samples[:1])
                return

    def are_started(self, acts):
        """Whether what the acts call has a sample."""
        return all([self.batches[number].samples != [] for number in free_calls(acts)])

    def grow(self):
        """A row is looked at again when a rule that it calls has a new sample."""
        code = self.coded.code
        waiting = [(number, k) for number in self.batches for k in range(len(code[number][1]))]
        due = {place: True for place in waiting}
        while waiting:
            place = waiting.pop()
            due[place] = False
            if self.grow_row(place[0], place[1]):
                more = [other for other in self.coded.callers[place[0]] if not due.get(other, True)]
                for other in more:
                    due[other] = True
                waiting.extend(more)

    def grow_row(self, number, k):
        """Whether the row gives a new sample of the rule."""
        head, acts = self.coded.code[number][1][k]
        return self.batches[number].note_all(head, self.acts_batch(acts).samples)

    def act_batch(self, act):
        word = act[0]
        if word == "put":
            return batch_of_thing(act[1])
        if word == "call":
            return self.batches[act[1]]
        if word == "tuple":
            return in_tuple(self.acts_batch(act[1]))
        if word == "sized":
            return self.exact.act_batches(act, [act[1]])[act[1]]
        return wrapped(act, self.act_batch(act[-1]))

    def acts_batch(self, acts):
        total = empty_batch()
        for act in acts:
            total = chained(total, self.act_batch(act))
        return total

    def rest_batch(self, number, bits):
        """What is left of the rule behind these bits of a head."""
        found = Batch([], [])
        for head, acts in self.coded.code[number][1]:
            if head.startswith(bits):
                found.note_all(head[len(bits):], self.acts_batch(acts).samples)
        return found
