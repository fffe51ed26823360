"""Sets of words told by which lengths one word has, and which two or more: a tuple of two integers.

In both bit n stands for the length n, the bit cap for all lengths from cap on. Sets that are put together have no
words in common, since words end by themselves. See spans.py, which has the same methods.
"""


class Manys:
    def __init__(self, cap):
        self.cap = cap
        self.none = (0, 0)
        self.below = (1 << cap) - 1

    def clipped(self, ones, twos):
        high = ones >> self.cap
        if high == 0:
            return (ones, twos)
        top = 1 << self.cap
        many = high & (high - 1) or twos >> self.cap
        return ((ones & self.below) | top, (twos & self.below) | (top if many else 0))

    def of_word(self, word):
        return self.clipped(1 << len(word), 0)

    def filled(self, start, many):
        """Any words of so many bits that start begins."""
        return self.clipped(1 << many, 1 << many if many > len(start) else 0)

    def either_of(self, one, other):
        return (one[0] | other[0], one[1] | other[1] | (one[0] & other[0]))

    def chained(self, one, other):
        ones = 0
        twos = 0
        for k in range(one[0].bit_length()):
            if one[0] >> k & 1:
                row = other[0] << k
                twos |= ones & row | other[1] << k
                ones |= row
                if one[1] >> k & 1:
                    twos |= row
        return self.clipped(ones, twos)

    def ahead(self, word, words):
        """The word ahead of each one."""
        return self.clipped(words[0] << len(word), words[1] << len(word))

    def exactly(self, words, length):
        """Those of this length, which is below cap."""
        mask = 1 << length if length < self.cap else 0
        return (words[0] & mask, words[1] & mask)

    def with_check(self, words, machine):
        return self.ahead(machine[0][2], words)

    def repeated(self, words):
        """Any number of them, one behind the other; none of them is the empty word."""
        empty = self.of_word("")
        total = empty
        grown = self.either_of(empty, self.chained(total, words))
        while grown != total:
            total = grown
            grown = self.either_of(empty, self.chained(total, words))
        return total


def how_many(words):
    """0, 1, or 2 for two or more."""
    ones, twos = words
    if ones == 0:
        return 0
    return 2 if twos or ones & (ones - 1) else 1
