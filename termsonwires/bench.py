"""The bench: lines that send over one wire, damage, reading bit by bit, and all of it taken back."""

from termsonwires.demands import need_bit, need_count
from termsonwires.errors import InvalidCount, InvalidDeeds, InvalidIndex, InvalidThing, NoBlock, NothingToUndo, Refused
from termsonwires.errors import WireError
from termsonwires.heldsamples import held_form
from termsonwires.kinds import is_integer, is_list, is_string, is_tuple
from termsonwires.nodes import Nodes
from termsonwires.spelling import thing_word
from termsonwires.wiring import LinkRun, Wired, taken_events

TURNED = {"0": "1", "1": "0"}


def need_index(value):
    if not is_integer(value) or value < 0:
        raise InvalidIndex("this is no integer from 0 on")


class Bench:
    """A wire, for each line a queue of bits, a tape of bits, and the link that has read the first of them.

    done: the deeds; moments: what stood ahead of each of them; blocks: the numbers of deeds at which open blocks begin.
    A moment is (queues, bits, read, now, told): queues by the lines of the wire, the bits of the tape, how many of them
    are taken, the link, the events.
    """

    def __init__(self, wire):
        self._wired = Wired(wire)
        self._wire = wire
        self._done = ()
        self._moments = []
        self._blocks = []
        self._moment = (("",) * len(wire[1]), "", 0, self._wired.new_link(), ())

    def __len__(self):
        return len(self._done)

    def __iter__(self):
        return iter(self._done)

    def __eq__(self, other):
        if not isinstance(other, Bench) or self.__class__.__name__ != other.__class__.__name__:
            return False
        return self._wire == other._wire and self._done == other._done

    @classmethod
    def made(cls, wire):
        return cls(wire)

    @property
    def wire(self):
        """The wire."""
        return self._wire

    @property
    def tape(self):
        """All bits of the tape."""
        return self._moment[1]

    @property
    def taken(self):
        """How many bits of the tape are taken."""
        return self._moment[2]

    @property
    def deeds(self):
        """A new list of the deeds."""
        return list(self._done)

    @property
    def depth(self):
        """How many blocks are open."""
        return len(self._blocks)

    def _note(self, deed, moment):
        """The deed is done: it leads to this moment."""
        self._moments.append(self._moment)
        self._done = (*self._done, deed)
        self._moment = moment

    def _place_of(self, name):
        """The index of the line."""
        self._wired.need_line(name)
        return self._wired.names.index(name)

    def _with_queue(self, place, bits):
        queues = self._moment[0]
        return (*queues[:place], bits, *queues[place + 1:])

    def send(self, name, thing):
        """The word of the thing goes behind the queue of the line; its number of bits is returned."""
        place = self._place_of(name)
        nodes = Nodes(self._wired.sheets[name])
        word = thing_word(nodes, nodes.root, thing)
        if word is None:
            raise InvalidThing("this is no thing of the sheet of the line")
        queues = self._with_queue(place, self._moment[0][place] + word)
        self._note(("send", name, thing), (queues, *self._moment[1:]))
        return len(word)

    def pack(self, name, number):
        """The first bits of the queue go as one packet behind the tape; its number of bits is returned."""
        place = self._place_of(name)
        need_count(number)
        bits = self._moment[0][place]
        if number > len(bits) or number not in self._wired.sizes:
            raise Refused("the queue has not so many bits, or the size has not this number")
        packet = self._wired.packet(name, bits[:number])
        queues = self._with_queue(place, bits[number:])
        self._note(("pack", name, number), (queues, self.tape + packet, *self._moment[2:]))
        return len(packet)

    def _damage(self, deed, bits):
        self._note(deed, (self._moment[0], bits, *self._moment[2:]))

    def _need_spot(self, index, most):
        if not self.taken <= index <= most:
            raise Refused("the tape has no such bit that is not taken")

    def flip(self, index):
        """The bit of the tape is turned."""
        need_index(index)
        self._need_spot(index, len(self.tape) - 1)
        self._damage(("flip", index), self.tape[:index] + TURNED[self.tape[index]] + self.tape[index + 1:])

    def lose(self, index):
        """The bit of the tape goes."""
        need_index(index)
        self._need_spot(index, len(self.tape) - 1)
        self._damage(("lose", index), self.tape[:index] + self.tape[index + 1:])

    def put(self, index, bit):
        """A bit comes ahead of that of the tape, or at its end."""
        need_index(index)
        need_bit(bit)
        self._need_spot(index, len(self.tape))
        self._damage(("put", index, bit), self.tape[:index] + bit + self.tape[index:])

    def _run(self):
        return LinkRun(self._wired, self._moment[3])

    def _coming(self, count):
        """The next bits of the tape, at most so many."""
        if not is_integer(count) or count < 1:
            raise InvalidCount("this is no integer from 1 on")
        return self.tape[self.taken:self.taken + count]

    def _take_bits(self, count, bits):
        """The link takes the bits, as far as it is not dead; how many it took is returned."""
        run = self._run()
        start = run.index
        events = taken_events(run, bits)
        many = run.index - start
        told = (*self._moment[4], *events)
        self._note(("take", count), (*self._moment[:2], self.taken + many, run.link(), told))
        return many

    def take(self, count):
        """The link is fed at most so many bits of the tape; how many it took is returned."""
        return self._take_bits(count, self._coming(count))

    def renew(self, name):
        """The stream of a dead line is opened anew; "" lets a dead link read a tag again."""
        if not is_string(name) or name != "":
            self._wired.need_line(name)
        run = self._run()
        if not run.has_died(name):
            raise Refused("this is not dead")
        run.reopen(name)
        self._note(("renew", name), (*self._moment[:3], run.link(), self._moment[4]))

    def undo(self):
        """Takes the last deed back, and returns it."""
        if len(self._done) == (self._blocks[-1] if self._blocks else 0):
            raise NothingToUndo("there is no deed to take back")
        deed = self._done[-1]
        self._done = self._done[:-1]
        self._moment = self._moments.pop()
        return deed

    def begin(self):
        """Opens a block."""
        self._blocks.append(len(self._done))

    def _end_block(self):
        """The number of deeds at which the innermost block began."""
        if not self._blocks:
            raise NoBlock("no block is open")
        return self._blocks.pop()

    def keep(self):
        """Ends the innermost block and leaves its deeds."""
        self._end_block()

    def drop(self):
        """Ends the innermost block and takes its deeds back."""
        start = self._end_block()
        while len(self._done) > start:
            self.undo()

    def twin(self):
        """An independent bench of the same class with the same wire and deeds, and no block."""
        other = self.made(self._wire)
        other._done = self._done
        other._moments = list(self._moments)
        other._moment = self._moment
        return other

    def queue(self, name):
        """The bits of the queue of the line."""
        return self._moment[0][self._place_of(name)]

    def events(self):
        """The list of all events."""
        return list(self._moment[4])

    def things(self, name):
        """The list of the things that the line told."""
        self._wired.need_line(name)
        return [event[1] for line, event, _ in self._moment[4] if line == name and event[0] == "thing"]

    def dead(self):
        """The ascending list of the names of the dead lines, "" for the wire."""
        run = self._run()
        return [name for name in ["", *self._wired.names] if run.has_died(name)]

    def link(self):
        """The link."""
        return self._moment[3]

    def sure(self, name):
        """The form of what the stream of the line reads now; None if it is dead."""
        self._wired.need_line(name)
        run = self._run()
        if run.has_died(name):
            return None
        return held_form(run.flows[name].run)


class CarefulBench(Bench):
    """A bench that takes no bit with which a line or the wire would be dead."""

    def take(self, count):
        """The link is fed at most so many bits of the tape, up to the first that would kill."""
        bits = self._coming(count)
        run = self._run()
        many = 0
        while many < len(bits):
            events = run.take(bits[many])
            if any([event[0] == "dead" for _, event, _ in events]):
                return self._take_bits(count, bits[:many])
            many += 1
        return self._take_bits(count, bits[:many])


def do_deed(bench, deed):
    """Whether the value is a deed; it is done then."""
    if not is_tuple(deed) or deed == () or not is_string(deed[0]):
        return False
    word = deed[0]
    if word == "send" and len(deed) == 3:
        bench.send(deed[1], deed[2])
    elif word == "pack" and len(deed) == 3:
        bench.pack(deed[1], deed[2])
    elif word == "flip" and len(deed) == 2:
        bench.flip(deed[1])
    elif word == "lose" and len(deed) == 2:
        bench.lose(deed[1])
    elif word == "put" and len(deed) == 3:
        bench.put(deed[1], deed[2])
    elif word == "take" and len(deed) == 2:
        bench.take(deed[1])
    elif word == "renew" and len(deed) == 2:
        bench.renew(deed[1])
    else:
        return False
    return True


def is_done(bench, deed):
    """Whether the value is a deed that the bench does without an error."""
    try:
        return do_deed(bench, deed)
    except WireError:
        return False


def replay(wire, deeds):
    """The bench with these deeds."""
    bench = Bench(wire)
    if not is_list(deeds):
        raise InvalidDeeds(0)
    for k in range(len(deeds)):
        if not is_done(bench, deeds[k]):
            raise InvalidDeeds(k)
    return bench
