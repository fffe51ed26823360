"""Fractions as tuples (top, bottom) in lowest terms, the bottom from 1 on, and the shares that are made of them."""

from math import gcd

ZERO = (0, 1)
ONE = (1, 1)
HALF = (1, 2)


def ratio(top, bottom):
    """The bottom may be below 0."""
    common = gcd(top, bottom) if bottom > 0 else -gcd(top, bottom)
    return (top // common, bottom // common)


def plus(one, other):
    return ratio(one[0] * other[1] + other[0] * one[1], one[1] * other[1])


def times(one, other):
    return ratio(one[0] * other[0], one[1] * other[1])


class Share:
    """What the share of an open state is: the sum of shares of other open states, each times a ratio, and a ratio."""

    def __init__(self, row, kinds):
        self.ratios = {}
        self.alone = ZERO
        for other in row:
            if kinds[other] == "open":
                self.put(other, HALF)
            elif kinds[other] == "whole":
                self.alone = plus(self.alone, HALF)

    def put(self, state, worth):
        self.ratios[state] = plus(self.ratios.get(state, ZERO), worth)

    def without(self, state):
        """Brings its own share to the one side."""
        if state in self.ratios:
            own = self.ratios[state]
            del self.ratios[state]
            factor = ratio(own[1], own[1] - own[0])
            self.alone = times(self.alone, factor)
            self.ratios = {other: times(self.ratios[other], factor) for other in self.ratios}

    def take_in(self, state, share):
        """Puts in what the share of the state is, in the place of this share."""
        if state in self.ratios:
            worth = self.ratios[state]
            del self.ratios[state]
            self.alone = plus(self.alone, times(worth, share.alone))
            for other in share.ratios:
                self.put(other, times(worth, share.ratios[other]))

    def told(self, found):
        """The ratio, by those of all states that stand in it."""
        total = self.alone
        for other in self.ratios:
            total = plus(total, times(self.ratios[other], found[other]))
        return total


def shares_of(acceptor):
    """The share of each state of a least acceptor; later states are put into earlier ones until none hang on them."""
    kinds = [kind for _, _, kind in acceptor]
    states = [state for state in range(len(kinds)) if kinds[state] == "open"]
    shares = {state: Share([acceptor[state][0], acceptor[state][1]], kinds) for state in states}
    for state in states[::-1]:
        shares[state].without(state)
        for other in states:
            if other < state:
                shares[other].take_in(state, shares[state])
    found = [ONE if kind == "whole" else ZERO for kind in kinds]
    for state in states:
        found[state] = shares[state].told(found)
    return found
