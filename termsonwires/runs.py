"""A reader of a code at work: the frames that are open, what is being read, and the steps that are done."""

from termsonwires.coded import check_bits


class OpenFrame:
    """word, name and number: the kind, name being the text of a label or a machine, number what is left or a state.

    things: what was given in it; acts: the acts to come, the last one first; passed: whether its check has come.
    """

    def __init__(self, kind, things, acts):
        self.word = kind[0]
        self.name = kind[1] if self.word in ("label", "checked") else None
        self.number = kind[-1] if self.word in ("sized", "checked") else None
        self.things = list(things)
        self.acts = list(acts[::-1])
        self.passed = False

    def kind(self):
        if self.word == "label":
            return ("label", self.name)
        if self.word == "sized":
            return ("sized", self.number)
        return ("checked", self.name, self.number) if self.word == "checked" else (self.word,)

    def given(self):
        """What the frame gives when it is closed."""
        if self.word == "tuple":
            return tuple(self.things)
        return (self.name, self.things[0]) if self.word == "label" else self.things[0]

    def check(self):
        return self.name[self.number][2]

    def go_on(self, bit):
        """A bit is taken while the frame is open."""
        if self.word == "sized":
            self.number -= 1
        else:
            self.number = self.name[self.number][int(bit)]


def frame_of_act(act):
    """The frame that an act opens."""
    if act[0] == "tuple":
        return OpenFrame(("tuple",), (), act[1])
    return OpenFrame(act[:-1], (), (act[-1],))


FIRST_HELD = (((("whole",), (), (("call", 0),)),), ())


class Run:
    """reading: what is being read, () if nothing is; is_whole: whether the word is whole; many: the steps done."""

    def __init__(self, coded, held):
        self.coded = coded
        self.frames = [OpenFrame(kind, things, acts) for kind, things, acts in held[0]]
        self.reading = held[1]
        self.counting = [frame for frame in self.frames if frame.word in ("sized", "checked")]
        self.is_whole = False
        self.many = 0

    def held(self):
        """The held state."""
        frames = [(frame.kind(), tuple(frame.things), tuple(frame.acts[::-1])) for frame in self.frames]
        return (tuple(frames), self.reading)

    def value(self):
        """The thing of a whole word."""
        return self.frames[0].things[0]

    def put_row(self, number, row):
        """The acts of the row come first in the innermost frame."""
        self.frames[-1].acts.extend(self.coded.code[number][1][row][1][::-1])
        self.many += 1

    def settle(self):
        """Does the steps that need no bit."""
        while self.reading == () and not self.is_whole:
            frame = self.frames[-1]
            if frame.acts:
                self.do_act(frame, frame.acts.pop())
            elif frame.word == "checked" and not frame.passed:
                self.reading = ("check", frame.check())
            elif frame.word == "whole":
                self.is_whole = True
            else:
                self.close_frame()

    def do_act(self, frame, act):
        if act[0] == "put":
            frame.things.append(act[1])
            self.many += 1
        elif act[0] == "call":
            row = self.coded.row_of_head(act[1], "")
            if row is None:
                self.reading = ("rule", act[1], "")
            else:
                self.put_row(act[1], row)
        else:
            self.frames.append(frame_of_act(act))
            self.many += 1
            if act[0] in ("sized", "checked"):
                self.counting.append(self.frames[-1])

    def close_frame(self):
        frame = self.frames.pop()
        if frame.word in ("sized", "checked"):
            self.counting.pop()
        self.frames[-1].things.append(frame.given())
        self.many += 1

    def take_bit(self, bit):
        """What is being read takes the bit; False if it does not go on so. No other step is done."""
        if self.reading[0] == "check":
            return self.take_check_bit(bit)
        _, number, bits = self.reading
        bits += bit
        row = self.coded.row_of_head(number, bits)
        if row is None and not self.coded.goes_on(number, bits):
            return False
        for frame in self.counting:
            frame.go_on(bit)
        if row is None:
            self.reading = ("rule", number, bits)
        else:
            self.reading = ()
            self.put_row(number, row)
        return True

    def take_check_bit(self, bit):
        bits = self.reading[1]
        if bits[0] != bit:
            return False
        for frame in self.counting[:-1]:
            frame.go_on(bit)
        self.reading = ("check", bits[1:]) if bits[1:] else ()
        self.frames[-1].passed = self.reading == ()
        return True

    def reading_lengths(self, table):
        """The lengths of what is being read."""
        if self.reading == ():
            return 1
        if self.reading[0] == "check":
            return 1 << len(self.reading[1])
        if table == self.coded.lengths:
            return self.coded.true_rest(self.reading[1], self.reading[2])
        return self.coded.rest_lengths(self.reading[1], self.reading[2], table)

    def is_check_to_come(self, index):
        """Whether the whole check of the frame is still to come, and not being read."""
        frame = self.frames[index]
        if frame.word != "checked" or frame.passed:
            return False
        return index < len(self.frames) - 1 or self.reading == () or self.reading[0] != "check"

    def insides(self, table):
        """The tuples (index, lengths) of each sized frame, the innermost first, and of what is inside of it.

        The last one has -1, and tells of what is outside of all sized frames.
        """
        spans = self.coded.spans
        found = []
        total = self.reading_lengths(table)
        for index in range(len(self.frames) - 1, -1, -1):
            frame = self.frames[index]
            if frame.acts:
                total = spans.chained(total, self.coded.acts_lengths(frame.acts, table))
            if self.is_check_to_come(index):
                total = spans.clipped(total << check_bits(frame.name))
            if frame.word == "sized":
                found.append((index, total))
                total = 1 << frame.number
        found.append((-1, total))
        return found

    def is_filled(self, index, lengths):
        """Whether what is inside of the frame can have as many bits as are left, or what is outside any number."""
        return lengths != 0 if index == -1 else lengths >> self.frames[index].number & 1 == 1

    def unfilled_frames(self, table):
        """The indexes of the frames that can not be filled, by the table of the lengths of rules."""
        return [index for index, lengths in self.insides(table) if not self.is_filled(index, lengths)]

    def take(self, bit):
        """Takes the bit and does the steps behind it; False if the bit kills."""
        if not self.take_bit(bit):
            return False
        if any([frame.word == "sized" for frame in self.counting]) and self.unfilled_frames(self.coded.lengths):
            return False
        self.settle()
        return True

    def rest_least(self):
        """The least number of bits that make the word whole; what is inside of a sized frame is told by it."""
        total = 0
        for index in range(len(self.frames)):
            frame = self.frames[index]
            total += self.coded.acts_least(frame.acts)
            if self.is_check_to_come(index):
                total += check_bits(frame.name)
            if frame.word == "sized":
                return total + frame.number
        if self.reading[0] == "check":
            return total + len(self.reading[1])
        return total + self.coded.rest_least(self.reading[1], self.reading[2])


def first_run(coded):
    """The run ahead of all bits, its first steps done."""
    run = Run(coded, FIRST_HELD)
    run.settle()
    return run
