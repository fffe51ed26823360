"""Two tellers: whether they have the same things for the same words, and what one sheet's words lose in another."""

from termsonwires.beside import first_unread
from termsonwires.bulks import flat_tables, need_small
from termsonwires.demands import need_teller
from termsonwires.errors import InvalidSheet
from termsonwires.kinds import is_integer, is_list, is_string, is_tuple_of
from termsonwires.leading import Leads
from termsonwires.prices import thing_of_word
from termsonwires.reading import answer
from termsonwires.speech import bare_rows
from termsonwires.tellers import told_teller


def need_tellers(teller, other_teller):
    need_teller(teller)
    need_teller(other_teller)


def misread(teller, other_teller):
    """The first word by length for which the two have unlike things; None if there is none."""
    need_tellers(teller, other_teller)
    return Leads(teller, other_teller).misread


def lead_table(teller, other_teller):
    """The lead table that holds; None if a word is misread."""
    need_tellers(teller, other_teller)
    return Leads(teller, other_teller).told_table()


def is_lead_row(value):
    if not is_tuple_of(value, 4) or not is_integer(value[0]) or not is_integer(value[1]):
        return False
    return is_string(value[2]) and is_string(value[3])


def is_lead_table(teller, other_teller, value):
    """Whether the value is a lead table that holds; there is one at most."""
    need_tellers(teller, other_teller)
    if not is_list(value) or not all([is_lead_row(row) for row in value]):
        return False
    return value == Leads(teller, other_teller).told_table()


def first_lost(teller, other_teller):
    """The first word by length for which the other one has not the same thing; None if there is none."""
    found = [first_unread(bare_rows(teller[1]), bare_rows(other_teller[1])), Leads(teller, other_teller).misread]
    return min([bits for bits in found if bits is not None], key=lambda bits: (len(bits), bits), default=None)


def lost(sheet, other_sheet):
    """None, or (bits, thing, what): the first word that the other sheet does not read as the same thing."""
    table, other_table = flat_tables([sheet, other_sheet])
    need_small(table, True)
    need_small(other_table, True)
    bits = first_lost(told_teller(table), told_teller(other_table))
    if bits is None:
        return None
    return (bits, thing_of_word(table, bits), answer(other_table, bits, 0))


def keeping(versions):
    """The ascending list of the tuples (i, j) of unlike indexes such that nothing is lost from the i-th to the j-th."""
    if not is_list(versions):
        raise InvalidSheet("the versions are no list")
    tables = flat_tables(versions)
    for table in tables:
        need_small(table, True)
    tellers = [told_teller(table) for table in tables]
    found = []
    for i in range(len(tellers)):
        for j in range(len(tellers)):
            if i != j and first_lost(tellers[i], tellers[j]) is None:
                found.append((i, j))
    return found
