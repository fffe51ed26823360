"""The routes of a spot: sizes for its frames, and lengths ahead, that some thing has."""

from termsonwires.kinds import is_integer, is_tuple
from termsonwires.spotting import Step, Stretch, along_refs
from termsonwires.tables import Table
from termsonwires.witnesses import Witnesses


def witness_table(table):
    return Table(table.nodes, table.numbers, Witnesses(table.sets.cap))


def stretches_of(table, spot):
    """The stretches of the spot, the outermost first; None if no thing has it, as far as is seen at once."""
    found = []
    frame = None
    steps = []
    node = along_refs(table.nodes, table.nodes.root)
    for index in spot:
        step = Step(table, node, index)
        if step.child is None:
            return None
        if step.term[0] == "sized":
            found.append(Stretch(table, frame, steps, node, False))
            frame = node
            steps = []
        else:
            steps.append(step)
        node = step.child
    return [*found, Stretch(table, frame, steps, node, True)]


class Routes:
    """holding: for each stretch the sizes of its frame with which some thing has the rest of the spot; [None] outside.

    met: for each stretch a dict from those of these sizes that some thing has to (size, known sizes, inner size) of the
    stretch around it.
    """

    def __init__(self, stretches):
        self.stretches = stretches
        self.known = [stretch.known_sums() for stretch in stretches]
        self.holding = [[] for _ in stretches]
        for k in range(len(stretches) - 1, -1, -1):
            self.holding[k] = [size for size in self.frame_sizes(k) if self.fillings(k, size)]
        self.met = [{} for _ in stretches]
        for size in self.holding[0]:
            self.met[0][size] = None
        for k in range(len(stretches) - 1):
            for size in self.met[k]:
                for filling in self.fillings(k, size):
                    self.met[k + 1].setdefault(filling[1], (size, filling[0]))

    def frame_sizes(self, k):
        """The sizes that the frame of the stretch can have at all."""
        return sorted(self.stretches[k - 1].numbers()) if k > 0 else [None]

    def inner_sizes(self, k):
        """The sizes that the next frame can have; [None] if there is none."""
        return self.holding[k + 1] if k < len(self.stretches) - 1 else [None]

    def fillings(self, k, size):
        """The tuples (sum of known lengths, inner size, total) by which the stretch fills a frame of this size."""
        stretch = self.stretches[k]
        found = []
        for known in self.known[k]:
            for inner in self.inner_sizes(k):
                total = stretch.total_left(size, known, inner)
                if total in stretch.totals:
                    found.append((known, inner, total))
        return found

    def is_had(self):
        """Whether some thing has the spot."""
        return self.holding[0] != []

    def open_place(self):
        """The tuple (stretch, size, filling) where unlike lengths can stand ahead with equal sizes; None."""
        for k in range(len(self.stretches)):
            for size in self.met[k]:
                for filling in self.fillings(k, size):
                    if len(self.stretches[k].totals[filling[2]]) > 1:
                        return (k, size, filling)
        return None

    def word_inside(self, k, filling, ahead):
        """A word of what is inside of the frame of the stretch, with this length ahead."""
        known, inner, total = filling
        stretch = self.stretches[k]
        choices, word = stretch.totals[total][ahead]
        if inner is not None:
            word = stretch.numbers()[inner] + self.some_word(k + 1, inner)
        return stretch.built(word, choices, self.known[k][known])

    def some_word(self, k, size):
        filling = self.fillings(k, size)[0]
        return self.word_inside(k, filling, self.first_ahead(k, filling))

    def first_ahead(self, k, filling):
        return list(self.stretches[k].totals[filling[2]])[0]

    def whole_word(self, k, size, word):
        """A word of the sheet in which this one stands inside of the frame of the stretch k."""
        while k > 0:
            around, known = self.met[k][size]
            k -= 1
            stretch = self.stretches[k]
            filling = [row for row in self.fillings(k, around) if row[0] == known and row[1] == size][0]
            choices, _ = stretch.totals[filling[2]][self.first_ahead(k, filling)]
            word = stretch.built(stretch.numbers()[size] + word, choices, self.known[k][known])
            size = around
        return word

    def two_words(self):
        """Two words of things with equal sizes and unlike starts; None if there are none."""
        place = self.open_place()
        if place is None:
            return None
        k, size, filling = place
        aheads = list(self.stretches[k].totals[filling[2]])[:2]
        return [self.whole_word(k, size, self.word_inside(k, filling, ahead)) for ahead in aheads]

    def many_sizes(self):
        return sum([len(stretch.known) for stretch in self.stretches]) + len(self.stretches) - 1

    def start_by(self, sizes):
        """The start of the part in things with these sizes; None if no thing has them. The spot is fixed."""
        if not is_tuple(sizes) or len(sizes) != self.many_sizes() or not all([is_integer(size) for size in sizes]):
            return None
        left = list(sizes)
        start = 0
        size = None
        for k in range(len(self.stretches)):
            stretch = self.stretches[k]
            many = len(stretch.known)
            words = stretch.known_words(left[:many])
            inner = None if stretch.is_last else left[many]
            left = left[many + 1:]
            if words is None or inner not in self.inner_sizes(k):
                return None
            known = sum([len(word) for word in words])
            total = stretch.total_left(size, known, inner)
            if total not in stretch.totals:
                return None
            start += known + list(stretch.totals[total])[0] + (0 if inner is None else len(stretch.numbers()[inner]))
            size = inner
        return start
