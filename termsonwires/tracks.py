"""The cheapest words of checked terms: their checks hang on the words, so the states of machines are followed.

A cell tells of a node, of the checked nodes around it (its machines) and of the states in which these stand ahead of
it a dict from (length, states behind it) to (price, word): of the words of this length that lead to these states the
one with the least price, of several the first.
"""

from termsonwires.solver import Solver


def put_cheaper(found, key, price, word):
    if key not in found or (price, word) < found[key]:
        found[key] = (price, word)


class Tracker(Solver):
    """Follows the words of at most so many bits."""

    def __init__(self, table, prices, most):
        super().__init__()
        self.table = table
        self.nodes = table.nodes
        self.prices = prices
        self.most = most

    def states_behind(self, around, states, bits):
        machines = [self.nodes.terms[node][1] for node in around]
        return tuple([state_behind_bits(machine, state, bits) for machine, state in zip(machines, states)])

    def of_words(self, around, states, words):
        found = {}
        for word in words:
            if len(word) <= self.most:
                key = (len(word), self.states_behind(around, states, word))
                put_cheaper(found, key, self.prices.price_of(word), word)
        return found

    def attempt(self, key):
        node, around, states = key
        term = self.nodes.terms[node]
        parts = self.nodes.parts[node]
        word = term[0]
        if word == "bits":
            return self.of_words(around, states, [term[1]])
        if word == "table":
            return self.of_words(around, states, [bits for _, bits in term[1]])
        if word == "ref":
            return self.ask((self.nodes.targets[node], around, states))
        start = {(0, states): (0, "")}
        if word == "width":
            return self.with_digits(start, around, term[1])
        if word == "row":
            return self.with_parts_behind(start, around, parts)
        if word == "times":
            return self.with_parts_behind(start, around, parts * term[1])
        if word == "until":
            return self.of_until(start, around, parts[0], term[1])
        if word == "checked":
            return self.of_checked(node, around, states)
        return self.with_heads(around, states, heads_of(self.table, term, parts))

    def with_digits(self, found, around, many):
        """With any bits behind."""
        for _ in range(many):
            grown = {}
            for length, states in found:
                for bit in ("0", "1"):
                    price, word = found[(length, states)]
                    key = (length + 1, self.states_behind(around, states, bit))
                    put_cheaper(grown, key, price + self.prices.price_of(bit), word + bit)
            found = {key: grown[key] for key in grown if key[0] <= self.most}
        return found

    def with_part_behind(self, found, around, part):
        """With the words of the part behind; None if a cell is wanted for it."""
        grown = {}
        for length, states in found:
            cell = self.ask((part, around, states))
            if cell is None:
                return None
            price, word = found[(length, states)]
            for more, behind in cell:
                if length + more <= self.most:
                    more_price, more_word = cell[(more, behind)]
                    put_cheaper(grown, (length + more, behind), price + more_price, word + more_word)
        return grown

    def with_parts_behind(self, found, around, parts):
        for part in parts:
            found = self.with_part_behind(found, around, part)
            if found is None:
                return None
        return found

    def with_heads(self, around, states, heads):
        """The words that are a head with words of its parts, all of them together of so many bits, behind it."""
        total = {}
        for head, parts, size in heads:
            start = self.of_words(around, states, [head])
            found = self.with_parts_behind(start, around, parts)
            if found is None:
                return None
            for key in found:
                if size is None or key[0] == len(head) + size:
                    price, word = found[key]
                    put_cheaper(total, key, price, word)
        return total

    def of_until(self, start, around, item, mark):
        """Items have bits, so each word of items comes by shorter ones."""
        items = dict(start)
        for length in range(self.most + 1):
            now = {key: items[key] for key in items if key[0] == length}
            grown = self.with_part_behind(now, around, item)
            if grown is None:
                return None
            for key in grown:
                price, word = grown[key]
                put_cheaper(items, key, price, word)
        return self.with_bits_behind(items, around, mark)

    def with_bits_behind(self, found, around, bits):
        total = {}
        for length, states in found:
            price, word = found[(length, states)]
            key = (length + len(bits), self.states_behind(around, states, bits))
            if key[0] <= self.most:
                put_cheaper(total, key, price + self.prices.price_of(bits), word + bits)
        return total

    def of_checked(self, node, around, states):
        """The check goes through the machines around, its own machine not."""
        machine = self.nodes.terms[node][1]
        inner = self.ask((self.nodes.parts[node][0], (*around, node), (*states, 0)))
        if inner is None:
            return None
        total = {}
        for length, behind in inner:
            found = {(length, behind[:-1]): inner[(length, behind)]}
            checked = self.with_bits_behind(found, around, machine[behind[-1]][2])
            for key in checked:
                price, word = checked[key]
                put_cheaper(total, key, price, word)
        return total

    def by_length(self, node):
        """For each length the least (price, word) of the words of a checked node; None where there is none."""
        found = self.solve((node, (), ()))
        return [found.get((length, ())) for length in range(self.most + 1)]


def state_behind_bits(machine, state, bits):
    for bit in bits:
        state = machine[state][int(bit)]
    return state


def heads_of(table, term, parts):
    """The words of an either, a counted or a sized term: heads, the parts behind each one and their size, if told."""
    if term[0] == "either":
        return [(way[1], [part], None) for way, part in zip(term[1], parts)]
    words = table.numbers[parts[0]]
    if term[0] == "counted":
        return [(words[k], [parts[1]] * k, None) for k in words]
    return [(words[k], [parts[1]], k) for k in words]
