"""Samples of what is given by bits: few words whose things have the least form of all.

What is given stands in rows: the tokens of the tuple of it (see formtokens.py); a single thing is a tuple of one.
"""

from termsonwires.flatforms import flat_thing
from termsonwires.formtokens import joined_forms


class Batch:
    """samples: the list of (bits, row), each but the first not taken by the least form of those ahead of it.

    form: the tokens of their least form, [] without samples.
    """

    def __init__(self, samples, form):
        self.samples = samples
        self.form = form

    def note(self, bits, row):
        """Whether the row is a new sample: one that the least form does not take."""
        grown = joined_forms(self.form, row) if self.form else row
        if grown == self.form:
            return False
        self.form = grown
        self.samples.append((bits, row))
        return True

    def note_all(self, start, samples):
        """Notes the samples with the bits ahead of each; whether one of them is new."""
        return any([self.note(start + bits, row) for bits, row in samples])


def batch_of_row(bits, row):
    return Batch([(bits, row)], row)


def batch_of_thing(thing):
    return batch_of_row("", [("tuple", 1), *flat_thing(thing)])


def empty_batch():
    return batch_of_row("", [("tuple", 0)])


def row_behind(one, other):
    """The row of what the two rows have, one behind the other."""
    return [(other[0][0], one[0][1] + other[0][1]), *one[1:], *other[1:]]


def chained(one, other):
    """The first sample of each with all of the other: what two parts give is free of one another."""
    first = one.samples[0]
    second = other.samples[0]
    found = [(first[0] + bits, row_behind(first[1], row)) for bits, row in other.samples]
    found.extend([(bits + second[0], row_behind(row, second[1])) for bits, row in one.samples[1:]])
    return Batch(found, row_behind(one.form, other.form))


def in_tuple(batch):
    """The tuple of what is given, as one thing."""
    return Batch([(bits, [("tuple", 1), *row]) for bits, row in batch.samples], [("tuple", 1), *batch.form])


def labelled_row(text, row):
    return [("tuple", 1), ("tuple", 2), ("atom", text), *row[1:]]


def labelled(text, batch):
    return Batch([(bits, labelled_row(text, row)) for bits, row in batch.samples], labelled_row(text, batch.form))


def check_from(machine, state, bits):
    """The check behind the bits, if the machine stands in the state ahead of them."""
    for bit in bits:
        state = machine[state][int(bit)]
    return machine[state][2]


def checked(machine, state, batch):
    return Batch([(bits + check_from(machine, state, bits), row) for bits, row in batch.samples], batch.form)


def wrapped(act, batch):
    """What a label or a checked act gives, by the batch of the act in it."""
    return labelled(act[1], batch) if act[0] == "label" else checked(act[1], act[2], batch)


def note_batch(found, length, batch):
    """Adds the samples of the batch to those of the length; found keeps batches of its own."""
    if length not in found:
        found[length] = Batch([], [])
    found[length].note_all("", batch.samples)
