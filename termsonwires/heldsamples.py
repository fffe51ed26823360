"""Samples of what the endings of a held state give, and the least form of all of it.

Inside of the outermost sized frame batches are kept by lengths, and put together frame by frame. Outside of it nothing
hangs together: there the parts of the form, and the choices of samples, are only written down one behind the other.
"""

from termsonwires.batches import batch_of_row, chained, check_from, checked, in_tuple, labelled, note_batch, row_behind
from termsonwires.coded import check_bits
from termsonwires.flatforms import flat_thing
from termsonwires.formtokens import form_of_tokens
from termsonwires.sampling import FreeSamples


def things_batch(things):
    """The batch of what was given so far."""
    row = [("tuple", len(things))]
    for thing in things:
        row.extend(flat_thing(thing))
    return batch_of_row("", row)


def acts_of(frame):
    return frame.acts[::-1]


class HeldSamples:
    """core: the batch of the outermost sized frame, or of what is being read if there is none.

    outer: the frames around it, the innermost first; parts: for each of these the batches of its acts.
    """

    def __init__(self, run):
        self.run = run
        sized = [k for k in range(len(run.frames)) if run.frames[k].word == "sized"]
        self.outer = run.frames[:min(sized, default=len(run.frames))][::-1]
        asked = [act for frame in self.outer for act in frame.acts]
        if not sized and run.reading[0] == "rule":
            asked.append(("call", run.reading[1]))
        self.free = FreeSamples(run.coded, asked)
        self.core = self.sized_core(sized) if sized else self.reading_core()
        self.parts = [[self.free.act_batch(act) for act in acts_of(frame)] for frame in self.outer]

    def reading_core(self):
        reading = self.run.reading
        if reading[0] == "check":
            return batch_of_row(reading[1], [("tuple", 0)])
        return self.free.rest_batch(reading[1], reading[2])

    def reading_batches(self, most):
        """A dict from lengths up to most to batches of what is being read."""
        reading = self.run.reading
        if reading[0] == "check":
            return {len(reading[1]): self.reading_core()}
        _, number, bits = reading
        found = {}
        for head, acts in self.run.coded.code[number][1]:
            if head.startswith(bits):
                rest = head[len(bits):]
                batches = self.free.exact.acts_batches(acts, list(range(most - len(rest) + 1)))
                for k in batches:
                    ahead = batch_of_row(rest, [("tuple", 0)])
                    note_batch(found, len(rest) + k, chained(ahead, batches[k]))
        return found

    def sized_core(self, sized):
        """The batch of the outermost sized frame, by the frames inside of it from the innermost outwards."""
        left = [self.run.frames[k].number for k in sized]
        found = self.reading_batches(left[-1])
        for k in range(len(self.run.frames) - 1, sized[0] - 1, -1):
            frame = self.run.frames[k]
            most = left[-1]
            given = things_batch(frame.things)
            found = {length: chained(given, found[length]) for length in found if length <= most}
            found = self.free.exact.with_acts(found, acts_of(frame), list(range(most + 1)))
            if frame.word == "sized":
                left.pop()
                found = {frame.number: found[frame.number]}
            else:
                found = self.closed(k, found)
        return found[self.run.frames[sized[0]].number]

    def closed(self, index, found):
        """The batches of what the frame gives, by those of what is in it."""
        frame = self.run.frames[index]
        if frame.word == "tuple":
            return {length: in_tuple(found[length]) for length in found}
        if frame.word == "label":
            return {length: labelled(frame.name, found[length]) for length in found}
        if not self.run.is_check_to_come(index):
            return found
        more = check_bits(frame.name)
        return {length + more: checked(frame.name, frame.number, found[length]) for length in found}

    def form_tokens(self):
        """The tokens of the least form of what the endings give."""
        ahead = []
        behind = []
        head = self.core.form[0]
        for frame, batches in zip(self.outer, self.parts):
            given = things_batch(frame.things).form
            acts = [("tuple", 0)]
            for batch in batches:
                acts = row_behind(acts, batch.form)
            word = acts[0][0] if batches else head[0]
            head = (word, given[0][1] + head[1] + acts[0][1])
            ahead.append(given[1:])
            behind.append(acts[1:])
            if frame.word == "tuple":
                ahead.append([head])
            elif frame.word == "label":
                ahead.append([("tuple", 2), ("atom", frame.name)])
            head = ("tuple", 1) if frame.word in ("tuple", "label") else head
        tokens = []
        for part in [*ahead[::-1], self.core.form[1:], *behind]:
            tokens.extend(part)
        return tokens

    def bits_by(self, place, k):
        """The ending in which the batch at this place (frame, act) has its sample k, all others their first one.

        The core stands at (-1, 0).
        """
        bits = self.core.samples[k if place == (-1, 0) else 0][0]
        for i in range(len(self.outer)):
            for j in range(len(self.parts[i])):
                bits += self.parts[i][j].samples[k if place == (i, j) else 0][0]
            frame = self.outer[i]
            if self.run.is_check_to_come(len(self.outer) - 1 - i):
                bits += check_from(frame.name, frame.number, bits)
        return bits

    def endings(self):
        """The endings of the samples: one with all first ones, then those in which one is another one."""
        found = [self.bits_by((-1, 0), k) for k in range(len(self.core.samples))]
        for i in range(len(self.parts)):
            for j in range(len(self.parts[i])):
                found.extend([self.bits_by((i, j), k) for k in range(1, len(self.parts[i][j].samples))])
        return found


def held_form(run):
    """The least form of all things that some ending gives."""
    return form_of_tokens(HeldSamples(run).form_tokens())
