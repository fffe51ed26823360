"""Sets of words, of which the first one of each length is kept: a dict from length to word.

At the length cap stands the first one, by length, of all words of cap bits or more. See spans.py.
"""

from termsonwires.spelling import machine_check

LONGEST = 1 << 20


class Firsts:
    """Words longer than any thing within the limits has are left out, lest they fill the memory."""

    def __init__(self, cap):
        self.cap = cap
        self.none = {}

    def put_word(self, found, word):
        """Puts the word into the dict if it comes ahead of the one of its length."""
        length = min(len(word), self.cap)
        old = found.get(length)
        if len(word) <= LONGEST and (old is None or (len(word), word) < (len(old), old)):
            found[length] = word

    def of_words(self, words):
        found = {}
        for word in words:
            self.put_word(found, word)
        return found

    def of_word(self, word):
        return self.of_words([word])

    def filled(self, start, many):
        """Of the words of so many bits that start begins, the first."""
        return self.of_words([start.ljust(many, "0")])

    def either_of(self, one, other):
        return self.of_words(list(one.values()) + list(other.values()))

    def chained(self, one, other):
        """Each of the one with each of the other behind it; lengths are looked at first, for words may be long."""
        found = {}
        for first in list(one.values()):
            for second in list(other.values()):
                if len(first) + len(second) <= LONGEST:
                    self.put_word(found, first + second)
        return found

    def ahead(self, word, words):
        return self.of_words([word + other for other in words.values()])

    def exactly(self, words, length):
        return {length: words[length]} if length < self.cap and length in words else {}

    def with_check(self, words, machine):
        return self.of_words([word + machine_check(machine, word) for word in words.values()])

    def repeated(self, words):
        """Any number of them, one behind the other; none of them may be the empty word.

        The first one of cap bits or more goes on from one of fewer, or its own end would come ahead of it.
        """
        total = self.of_words([""])
        for length in range(1, self.cap):
            for first in [words[k] for k in words if k <= length and length - k in total]:
                self.put_word(total, first + total[length - len(first)])
        for first in list(words.values()):
            for rest in list(total.values()):
                if self.cap <= len(first) + len(rest) <= LONGEST:
                    self.put_word(total, first + rest)
        return total


def first_of(words):
    """The first word by length; None if there is none."""
    return min(list(words.values()), key=lambda word: (len(word), word), default=None)
