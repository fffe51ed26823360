"""The words of things: a thing is taken apart along the terms, and its word is put together again.

No call stands inside of another one for it, however deep a thing is.
"""

from termsonwires.kinds import is_integer, is_string, is_tuple, is_tuple_of


class Frame:
    """A term with the thing that is to be spelled by it.

    trail tells the refs gone along with this same thing: who comes to one of them again would never end.
    left holds the parts (node, thing) still to be spelled, done the spellings of those that are.
    """

    def __init__(self, node, thing, trail):
        self.node = node
        self.thing = thing
        self.trail = trail
        self.left = []
        self.done = []


class Spelling:
    """A term with its thing, the word, and the spellings of the parts in the order of their words."""

    def __init__(self, frame, word, parts):
        self.node = frame.node
        self.thing = frame.thing
        self.word = word
        self.parts = parts


def digits(number, many):
    """The number in so many binary digits."""
    return f"{number:b}".rjust(many, "0") if many else ""


def machine_check(machine, bits):
    row = machine[0]
    for bit in bits:
        row = machine[row[int(bit)]]
    return row[2]


def leaf_word(term, thing):
    """The word of a thing of a bits, table or width term; None if it has no such thing."""
    if term[0] == "bits":
        return term[1] if is_tuple_of(thing, 0) else None
    if term[0] == "width":
        return digits(thing, term[1]) if is_integer(thing) and 0 <= thing < 1 << term[1] else None
    if not is_integer(thing) and not is_string(thing):
        return None
    return dict(term[1]).get(thing)


def parts_to_spell(nodes, node, thing):
    """The parts (node, thing) into which the thing falls at once; None if it is of another form.

    The number of a sized term is left out, since its integer hangs on the inner word.
    """
    term = nodes.terms[node]
    parts = nodes.parts[node]
    word = term[0]
    if word == "ref":
        return [(nodes.targets[node], thing)]
    if word in ("sized", "checked"):
        return [(parts[-1], thing)]
    if not is_tuple(thing):
        return None
    if word == "either":
        return way_to_spell(term, parts, thing)
    if word == "row":
        return list(zip(parts, thing)) if len(thing) == len(parts) else None
    if word == "times" and len(thing) != term[1]:
        return None
    items = [(parts[-1], item) for item in thing]
    return [(parts[0], len(thing))] + items if word == "counted" else items


def way_to_spell(term, parts, thing):
    if len(thing) != 2 or not is_string(thing[0]):
        return None
    for way, part in zip(term[1], parts):
        if way[0] == thing[0]:
            return [(part, thing[1])]
    return None


def whole_word(term, thing, words):
    """The word of a thing by the words of its parts."""
    word = term[0]
    bits = "".join(words)
    if word == "either":
        return [way[1] for way in term[1] if way[0] == thing[0]][0] + bits
    if word == "until":
        return bits + term[1]
    if word == "checked":
        return bits + machine_check(term[1], bits)
    return bits


def trail_on(nodes, frame, node, thing):
    """The trail of a part; None if it comes to a ref a second time with the same thing.

    The trail goes on where a thing is handed on whole, and to the numbers of sized terms: from the one integer
    these can lead to another one and back.
    """
    trail = frame.trail if nodes.terms[frame.node][0] in ("ref", "sized", "checked") else ()
    if nodes.terms[node][0] != "ref":
        return trail
    step = (node, thing if is_integer(thing) else None)
    return None if step in trail else (*trail, step)


class Speller:
    """Spells one thing of a sheet, with the frames that are under way, the outermost first."""

    def __init__(self, nodes):
        self.nodes = nodes
        self.frames = []

    def begin_frame(self, node, thing, trail):
        """Whether the thing has the form that the term asks for."""
        frame = Frame(node, thing, trail)
        term = self.nodes.terms[node]
        if term[0] not in ("bits", "table", "width"):
            parts = parts_to_spell(self.nodes, node, thing)
            if parts is None:
                return False
            frame.left = parts[::-1]
        elif leaf_word(term, thing) is None:
            return False
        self.frames.append(frame)
        return True

    def begin_part(self, frame):
        """Whether the next part of the frame can be spelled as far as is seen at once."""
        node, thing = frame.left.pop()
        trail = trail_on(self.nodes, frame, node, thing)
        return trail is not None and self.begin_frame(node, thing, trail)

    def end_frame(self):
        """The spelling of the innermost frame; None if its number has still to be spelled."""
        frame = self.frames[-1]
        term = self.nodes.terms[frame.node]
        parts = frame.done
        if term[0] == "sized":
            if len(parts) == 1:
                frame.left = [(self.nodes.parts[frame.node][0], len(parts[0].word))]
                return None
            parts = parts[::-1]
        self.frames.pop()
        if term[0] in ("bits", "table", "width"):
            return Spelling(frame, leaf_word(term, frame.thing), [])
        return Spelling(frame, whole_word(term, frame.thing, [part.word for part in parts]), parts)

    def spell(self, node, thing):
        """The spelling of the thing by the term of the node; None if it is no thing of the term."""
        if not self.begin_frame(node, thing, ()):
            return None
        while True:
            if self.frames[-1].left:
                if not self.begin_part(self.frames[-1]):
                    return None
            else:
                spelling = self.end_frame()
                if spelling is not None and not self.frames:
                    return spelling
                if spelling is not None:
                    self.frames[-1].done.append(spelling)


def spelled(nodes, node, thing):
    return Speller(nodes).spell(node, thing)


def thing_word(nodes, node, thing):
    """The word of the thing of the term; None if it is none."""
    spelling = spelled(nodes, node, thing)
    return None if spelling is None else spelling.word
