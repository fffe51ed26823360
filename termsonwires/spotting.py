"""Spots gone along: the stretches of a path between sized frames, and which lengths can stand ahead in them.

A slot is a node, refs gone along, one thing of which stands beside the path. Slots ahead that are sized are known:
their lengths are told by the sizes. In a stretch inside of a frame the rest counts, too: the frame has to be filled.
"""

from termsonwires.numberwords import MOST_SIZED
from termsonwires.spelling import machine_check


def along_refs(nodes, node):
    while nodes.targets[node] is not None:
        node = nodes.targets[node]
    return node


class Choice:
    """One way to go a step: its own bits ahead, the words of the slots ahead (None for known ones) and behind."""

    def __init__(self, bits, ahead, behind):
        self.bits = bits
        self.ahead = ahead
        self.behind = behind


class Step:
    """A step from the term of a node to its part at the index; child is the node of the part."""

    def __init__(self, table, node, index):
        self.table = table
        self.node = node
        self.index = index
        self.term = table.nodes.terms[node]
        self.parts = [along_refs(table.nodes, part) for part in table.nodes.parts[node]]
        self.child = self.part_at(index)

    def part_at(self, index):
        """The node of the part; None if no thing has one there."""
        word = self.term[0]
        if word in ("row", "either"):
            return self.parts[index] if index < len(self.parts) else None
        if word == "times":
            return self.parts[0] if index < self.term[1] else None
        if word == "counted":
            return self.parts[1] if index < max(self.numbers(), default=0) else None
        if word == "until":
            return self.parts[0]
        if word == "sized":
            return self.parts[1] if index == 1 else None
        return self.parts[0] if word == "checked" and index == 0 else None

    def numbers(self):
        return self.table.numbers[self.table.nodes.parts[self.node][0]]

    def ways(self):
        """The tuples (bits, slots ahead, slots behind), one for each number that a counted can have there."""
        word = self.term[0]
        if word == "row":
            return [("", self.parts[:self.index], self.parts[self.index + 1:])]
        if word == "either":
            return [(self.term[1][self.index][1], [], [])]
        if word == "checked":
            return [("", [], [])]
        ahead = [self.child] * self.index
        if word == "until":
            return [("", ahead, [self.node])]
        if word == "times":
            return [("", ahead, [self.child] * (self.term[1] - self.index - 1))]
        numbers = self.numbers()
        return [(numbers[k], ahead, [self.child] * (k - self.index - 1)) for k in numbers if k > self.index]

    def known(self):
        """The slots ahead that are sized."""
        return [slot for slot in self.ways()[0][1] if self.is_sized(slot)]

    def is_sized(self, slot):
        return self.table.nodes.terms[slot][0] == "sized"

    def check_length(self):
        return len(self.term[1][0][2]) if self.term[0] == "checked" else 0

    def choices(self, is_inside):
        """A dict from (length ahead, length behind), known slots not counted, to a choice."""
        found = {}
        for bits, ahead, behind in self.ways():
            slots = [None if self.is_sized(slot) else self.table.full[slot] for slot in ahead]
            fronts = sums_of(slots, is_inside)
            backs = sums_of([self.table.full[slot] for slot in behind], is_inside)
            for front in fronts:
                for back in backs:
                    lengths = (len(bits) + front, back + self.check_length())
                    found.setdefault(lengths, Choice(bits, fronts[front], backs[back]))
        return found

    def built(self, word, choice, known):
        """The word of the term, by that of the part; known: the words of the known slots."""
        left = list(known)
        start = choice.bits
        for slot in choice.ahead:
            start += left.pop(0) if slot is None else slot
        whole = start + word + "".join(choice.behind)
        return whole + machine_check(self.term[1], whole) if self.term[0] == "checked" else whole


def few_sums(found, is_inside):
    """Those that a frame can hold; outside of frames the two least tell whether there is one length or more."""
    kept = sorted(found)[:2] if not is_inside else sorted([total for total in found if total <= MOST_SIZED])
    return {total: found[total] for total in kept}


def sums_of(slots, is_inside):
    """A dict from each sum of lengths to words that have it; None stands for a known slot, which is not counted."""
    found = {0: ()}
    for words in slots:
        grown = {}
        for total in found:
            if words is None:
                grown[total] = (*found[total], None)
            else:
                for length in words:
                    grown.setdefault(total + length, (*found[total], words[length]))
        found = few_sums(grown, is_inside)
    return found


def sized_words(table, node):
    """A dict from each size of a sized term to a word of it."""
    number, inner = table.nodes.parts[node]
    words = table.numbers[number]
    inside = table.full[inner]
    return {size: words[size] + inside[size] for size in sorted(words) if size in inside}


class Stretch:
    """Steps inside of a frame, None for the outermost stretch, up to the next frame or the last part.

    goal: the node of this frame or part. known: the slots ahead that are sized, in their order. totals: for each sum of
    lengths, with that of the last part, a dict from the lengths ahead to (choices of the steps, word of the last part).
    """

    def __init__(self, table, frame, steps, goal, is_last):
        self.table = table
        self.frame = frame
        self.steps = steps
        self.goal = goal
        self.is_last = is_last
        self.known = [slot for step in steps for slot in step.known()]
        self.totals = {}
        for lengths, choices in self.pairs().items():
            self.note(lengths, choices)

    def is_inside(self):
        return self.frame is not None

    def pairs(self):
        """A dict from (length ahead, length behind) to the choices of the steps."""
        found = {(0, 0): ()}
        for step in self.steps:
            choices = step.choices(self.is_inside())
            grown = {}
            for ahead, behind in found:
                for front, back in choices:
                    if not self.is_inside() or ahead + front + behind + back <= MOST_SIZED:
                        key = (ahead + front, behind + back)
                        grown.setdefault(key, (*found[(ahead, behind)], choices[(front, back)]))
            found = grown if self.is_inside() else self.outside_pairs(grown)
        return found

    def outside_pairs(self, found):
        """Outside of frames the length behind does not matter, and two lengths ahead are enough."""
        kept = {}
        for ahead, behind in sorted(found):
            if ahead not in kept and len(kept) < 2:
                kept[ahead] = (ahead, behind)
        return {pair: found[pair] for pair in kept.values()}

    def note(self, lengths, choices):
        """Outside of frames all stands under the total 0."""
        ahead, behind = lengths
        words = list(self.table.full[self.goal].values()) if self.is_last else [""]
        for word in words:
            total = ahead + behind + len(word) if self.is_inside() else 0
            self.totals.setdefault(total, {}).setdefault(ahead, (choices, word))

    def known_sums(self):
        """A dict from each sum of the lengths of the known slots to sizes of them that have it."""
        found = {0: ()}
        for slot in self.known:
            words = sized_words(self.table, slot)
            grown = {}
            for total in found:
                for size in words:
                    grown.setdefault(total + len(words[size]), (*found[total], size))
            found = {total: grown[total] for total in grown if not self.is_inside() or total <= MOST_SIZED}
        return found

    def known_words(self, sizes):
        """The words of the known slots with these sizes; None if one has not its size."""
        found = []
        for slot, size in zip(self.known, sizes):
            words = sized_words(self.table, slot)
            if size not in words:
                return None
            found.append(words[size])
        return found

    def numbers(self):
        """The words of the sizes of the next frame."""
        return self.table.numbers[self.table.nodes.parts[self.goal][0]]

    def total_left(self, size, known, inner):
        """What is left for all that is not known, in a frame of this size; inner: the size of the next frame."""
        if not self.is_inside():
            return 0
        return size - known - (0 if self.is_last else inner + len(self.numbers()[inner]))

    def built(self, word, choices, sizes):
        """The word inside of the frame, by that of the next frame or the last part."""
        left = self.known_words(sizes)
        for k in range(len(self.steps) - 1, -1, -1):
            many = len(self.steps[k].known())
            word = self.steps[k].built(word, choices[k], left[len(left) - many:])
            left = left[:len(left) - many]
        return word
