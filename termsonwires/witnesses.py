"""Sets of words of which one word of each length is kept: a dict from length to word.

Of the lengths from cap on only the two least are kept, so that it is still known whether there is one length or more.
See spans.py and firsts.py, which have the same methods.
"""

from termsonwires.firsts import LONGEST
from termsonwires.spelling import machine_check


class Witnesses:
    def __init__(self, cap):
        self.cap = cap
        self.none = {}

    def of_words(self, words):
        """The least word of each length; words beyond all limits are left out, lest they fill the memory."""
        found = {}
        for word in words:
            if len(word) <= LONGEST and (len(word) not in found or word < found[len(word)]):
                found[len(word)] = word
        long = sorted([length for length in found if length >= self.cap])[2:]
        return {length: found[length] for length in sorted(found) if length not in long}

    def of_word(self, word):
        return self.of_words([word])

    def filled(self, start, many):
        """A word of so many bits that start begins."""
        return self.of_words([start.ljust(many, "0")])

    def either_of(self, one, other):
        return self.of_words(list(one.values()) + list(other.values()))

    def chained(self, one, other):
        """Each of the one with each of the other behind it; lengths are looked at first, for words may be long."""
        sums = sorted({length + more for length in one for more in other})
        kept = {length: True for length in sums if length < self.cap}
        for length in [length for length in sums if length >= self.cap][:2]:
            kept[length] = True
        pairs = [(length, more) for length in one for more in other if length + more in kept]
        return self.of_words([one[length] + other[more] for length, more in pairs])

    def ahead(self, word, words):
        return self.of_words([word + other for other in words.values()])

    def exactly(self, words, length):
        return {length: words[length]} if length < self.cap and length in words else {}

    def with_check(self, words, machine):
        return self.of_words([word + machine_check(machine, word) for word in words.values()])

    def repeated(self, words):
        """Any number of them, one behind the other; none of them is the empty word."""
        total = self.of_word("")
        grown = self.either_of(total, self.chained(total, words))
        while grown != total:
            total = grown
            grown = self.either_of(total, self.chained(total, words))
        return total
