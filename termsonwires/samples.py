"""Things that fit a form and tell charts apart.

A sample has an atom of its own, which stands in no rule, at each hole "any", and at each hole "each" a tuple of a
length of its own, which no tuple in a rule has, with a sample of each rule of the chart. What another chart gives for
the sample tells what it gives for all things that fit the form: its own forms can only have holes there.
"""

from termsonwires.applying import given_by_chart
from termsonwires.flatforms import thing_built
from termsonwires.kinds import is_integer


class Sampler:
    """Makes samples beside the charts; used_atoms and used_lengths hold what stands in them or has been taken."""

    def __init__(self, charts):
        self.used_atoms = {}
        self.used_lengths = {}
        self.next_atom = 0
        for chart in charts:
            self.note_chart(chart)

    def note_chart(self, chart):
        for left, right in chart:
            for token in left + right:
                if token[0] == "atom" and is_integer(token[1]):
                    self.used_atoms[token[1]] = True
                elif token[0] == "tuple":
                    self.used_lengths[token[1]] = True
            for token in left:
                if token[0] == "each":
                    self.note_chart(token[2])

    def new_atom(self):
        while self.next_atom in self.used_atoms:
            self.next_atom += 1
        self.next_atom += 1
        return ("atom", self.next_atom - 1)

    def new_length(self, least):
        while least in self.used_lengths:
            least += 1
        self.used_lengths[least] = True
        return least

    def sample(self, form):
        """The tokens of a sample of the form."""
        tokens = []
        for token in form:
            if token[0] == "any":
                tokens.append(self.new_atom())
            elif token[0] == "each":
                tokens.extend(self.sample_of_each(token[2]))
            else:
                tokens.append(token)
        return tokens

    def sample_of_each(self, chart):
        length = self.new_length(len(chart))
        tokens = [("tuple", length)]
        for left, _ in chart:
            tokens.extend(self.sample(left))
        for _ in range(length - len(chart)):
            tokens.extend(smallest(chart[0][0]))
        return tokens


def smallest(form):
    """The tokens of a thing that fits the form, with 0 and () at its holes."""
    tokens = []
    for token in form:
        if token[0] == "any":
            tokens.append(("atom", 0))
        else:
            tokens.append(("tuple", 0) if token[0] == "each" else token)
    return tokens


def parting_things(chart, other):
    """The things that fit the chart, one for each rule at most, for which the other one does not give the same."""
    found = []
    for left, _ in chart:
        tokens = Sampler([chart, other]).sample(left)
        if given_by_chart(chart, tokens) != given_by_chart(other, tokens):
            found.append(thing_built(tokens))
    return found
