"""Terms without refs, each part with what its words tell: how many things it has, which integers are used."""

from termsonwires.automata import Numbering, Partition
from termsonwires.demands import need_term
from termsonwires.errors import InvalidTerm
from termsonwires.faultrows import sound_table
from termsonwires.firsts import Firsts, first_of
from termsonwires.kinds import is_ascending
from termsonwires.manys import Manys, how_many
from termsonwires.nodes import Nodes
from termsonwires.numberwords import MOST_SIZED, number_words
from termsonwires.tables import term_words
from termsonwires.terms import MOST_DEPTH, depth_of, parts_of

CAP = MOST_SIZED + 1
NUMBERED = ("counted", "sized")


class Part:
    """A term, its parts, its words as Manys tells them, and the integers of its number with their words.

    normal is set as soon as it is known that no rule can be used in it.
    """

    def __init__(self, term, parts, words, numbers):
        self.term = term
        self.parts = parts
        self.words = words
        self.numbers = numbers
        self.normal = False


def sheet_of_term(term):
    return ("t", (("t", term),))


def put_together(term, parts):
    """The part of the term whose own parts are these."""
    numbers = {}
    if term[0] in NUMBERED:
        nodes = Nodes(sheet_of_term(term))
        numbers = number_words(nodes)[nodes.parts[nodes.root][0]]
    words = term_words(Manys(CAP), term, [part.words for part in parts], numbers)
    return Part(term, parts, words, numbers)


def part_of_term(term):
    return put_together(term, [part_of_term(inner) for inner in parts_of(term)])


def things_in(part):
    """0, 1, or 2 for two or more."""
    return how_many(part.words)


def has_thing(part):
    return how_many(part.words) > 0


def first_words(sets, part):
    return term_words(sets, part.term, [first_words(sets, inner) for inner in part.parts], part.numbers)


def first_word_of(part):
    """The first word by length of a part that has one."""
    return first_of(first_words(Firsts(CAP), part))


def outer_indexes(part):
    """The indexes of the parts at outer paths: all but those of numbers."""
    return list(range(1 if part.term[0] in NUMBERED else 0, len(part.parts)))


def used_integers(part):
    """Of a counted or sized term, ascending."""
    inner = part.parts[1]
    if part.term[0] == "counted":
        return sorted([k for k in part.numbers if k == 0 or has_thing(inner)])
    return sorted([k for k in part.numbers if inner.words[0] >> k & 1])


def listed_number(part):
    """The table of the used integers with their words."""
    return ("table", tuple([(k, part.numbers[k]) for k in used_integers(part)]))


def wordy_ways(part):
    """The ways of an either whose terms have things, each with the part of its term."""
    return [(way, inner) for way, inner in zip(part.term[1], part.parts) if has_thing(inner)]


def tags_in(part):
    """The bits of the rows of a table, or the tags of the ways with things of an either; of other terms none."""
    if part.term[0] == "table":
        return [bits for _, bits in part.term[1]]
    if part.term[0] == "either":
        return [way[1] for way, _ in wordy_ways(part)]
    return []


def common_beginning(rows):
    """The longest bits that begin all of the rows."""
    least = min(rows)
    greatest = max(rows)
    k = 0
    while k < len(least) and least[k] == greatest[k]:
        k += 1
    return least[:k]


def is_leading(part):
    tags = tags_in(part)
    return len(tags) > 1 and common_beginning(tags) != ""


def are_tags_ascending(term):
    return is_ascending([row[1] for row in term[1]])


def least_machine(machine):
    """The classes of the rows that are come to, numbered as they are met, zero ahead of one."""
    steps = [[zero, one] for zero, one, _ in machine]
    met = Numbering(0, Partition([check for _, _, check in machine], steps).classes, steps)
    return tuple([(met.number_of(steps[k][0]), met.number_of(steps[k][1]), machine[k][2]) for k in met.states])


def reach_of(part):
    word = part.term[0]
    if word in ("bits", "width"):
        return 1
    if word == "table":
        return 2 if is_leading(part) else 1
    if word == "counted":
        return max(1 + depth_of(part.term[1]), 2 + reach_of(part.parts[1]))
    if word == "sized":
        return 1 + max(depth_of(part.term[1]), reach_of(part.parts[1]))
    inner = 1 + max([reach_of(inner) for inner in part.parts], default=0)
    return inner + 1 if is_leading(part) else inner


def own_weight(part):
    term = part.term
    word = term[0]
    if term in (("bits", ""), ("table", ())):
        return 1
    if word == "bits":
        return 2
    if word in ("table", "either"):
        start = 4 if word == "table" else 2 + 6 * len(term[1])
        return start + (6 if is_leading(part) else 0) + (0 if are_tags_ascending(term) else 1)
    if word in NUMBERED:
        return (10 if word == "counted" else 6) + (0 if term[1] == listed_number(part) else 1)
    if word == "checked":
        return 6 + (0 if term[1] == least_machine(term[1]) else 1)
    return 3


def weight_of(part):
    return own_weight(part) + sum([weight_of(part.parts[k]) for k in outer_indexes(part)])


def need_reach(part):
    if reach_of(part) > MOST_DEPTH:
        raise InvalidTerm("the reach of the term is above 12")


def sound_parts(terms):
    """The parts of terms; each kind of error of the first term that has it."""
    for term in terms:
        need_term(term)
    for term in terms:
        sound_table(sheet_of_term(term))
    parts = [part_of_term(term) for term in terms]
    for part in parts:
        need_reach(part)
    return parts


def sound_part(term):
    return sound_parts([term])[0]
