"""Sets of words told by how many words they have of each length: one integer, 64 of its bits for each length.

There are at most 2 ** n words of n bits, so that up to 60 bits no number runs over into the next one. Sets that are
put together have no words in common, since words end by themselves. See spans.py, which has the same methods.
"""

SLOT = 64
ONE_SLOT = (1 << SLOT) - 1


class Tallies:
    """Lengths above most are left out."""

    def __init__(self, most):
        self.most = most
        self.none = 0
        self.kept = (1 << (SLOT * (most + 1))) - 1

    def many_at(self, tally, length):
        return (tally >> (SLOT * length)) & ONE_SLOT

    def shifted(self, tally, many):
        return (tally << (SLOT * many)) & self.kept if many <= self.most else 0

    def of_word(self, word):
        return self.shifted(1, len(word))

    def filled(self, start, many):
        """The words of so many bits that start begins."""
        return self.shifted(1 << (many - len(start)), many)

    def either_of(self, one, other):
        return one + other

    def chained(self, one, other):
        return (one * other) & self.kept

    def ahead(self, word, tally):
        return self.shifted(tally, len(word))

    def exactly(self, tally, length):
        return self.shifted(self.many_at(tally, length), length)

    def with_check(self, tally, machine):
        return self.shifted(tally, len(machine[0][2]))

    def repeated(self, tally):
        """Any number of them, one behind the other; none of them is the empty word."""
        total = 1
        grown = self.chained(total, tally) + 1
        while grown != total:
            total = grown
            grown = self.chained(total, tally) + 1
        return total
