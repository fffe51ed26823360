"""Sets of lengths, kept as integers: bit n stands for the length n, the bit cap for all lengths from cap on.

Spans and Firsts have the same methods; what is told of terms by tables.py and reader.py is told in either of them.
"""


class Spans:
    def __init__(self, cap):
        self.cap = cap
        self.none = 0
        self.below = (1 << cap) - 1

    def clipped(self, lengths):
        if lengths >> self.cap:
            return (lengths & self.below) | (1 << self.cap)
        return lengths

    def of_word(self, word):
        return self.clipped(1 << len(word))

    def filled(self, start, many):
        """Any words of so many bits that start begins."""
        return self.clipped(1 << many)

    def either_of(self, one, other):
        return one | other

    def chained(self, one, other):
        """Each sum of two lengths."""
        total = 0
        shift = 0
        while one:
            if one & 1:
                total |= other << shift
            one >>= 1
            shift += 1
        return self.clipped(total)

    def ahead(self, word, lengths):
        """The word ahead of each one."""
        return self.clipped(lengths << len(word))

    def exactly(self, lengths, length):
        """Those of this length, which is below cap."""
        return lengths & (1 << length) if length < self.cap else 0

    def with_check(self, lengths, machine):
        return self.clipped(lengths << len(machine[0][2]))

    def repeated(self, lengths):
        """Each sum of any number of lengths."""
        total = self.clipped(1)
        grown = self.chained(total, lengths) | total
        while grown != total:
            total = grown
            grown = self.chained(total, total) | total
        return total
