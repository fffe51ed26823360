"""What a map does with the things of a sheet: which it does not fit, which it does not lead to the same words."""

from termsonwires.applying import given_by, made_ready
from termsonwires.demands import need_few_bits, need_map, need_sheet
from termsonwires.faultrows import sound_table
from termsonwires.firsts import Firsts, first_of
from termsonwires.fitting import Fitter
from termsonwires.listing import short_words
from termsonwires.mapcharts import map_chart
from termsonwires.prices import thing_of_word
from termsonwires.spelling import thing_word
from termsonwires.tables import Table


def misfit(sheet, mapping):
    """A thing of the sheet that the map does not fit; None if it fits all."""
    table = sound_table(sheet)
    need_map(mapping)
    test = [left for left, _ in map_chart(mapping)]
    firsts = Table(table.nodes, table.numbers, Firsts(table.sets.cap))
    word = first_of(Fitter(firsts).unfit_words(test))
    return None if word is None else thing_of_word(table, word)


def unkept(sheet, mapping, other_sheet, *, most=8):
    """The first thing in word order, of at most so many bits, that the map does not lead to the same word."""
    need_sheet(sheet)
    need_sheet(other_sheet)
    table = sound_table(sheet)
    nodes = sound_table(other_sheet).nodes
    need_map(mapping)
    need_few_bits(most)
    ready = made_ready(mapping)
    words = short_words(table, most)
    for word in sorted(words, key=lambda bits: (len(bits), bits)):
        given = given_by(ready, words[word])
        if given is None or thing_word(nodes, nodes.root, given) != word:
            return words[word]
    return None
