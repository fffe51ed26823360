"""The errors that functions raise for their parameters, one demand for each kind of parameter."""

from termsonwires.errors import InvalidBits, InvalidCount, InvalidIndex, InvalidName, InvalidPlace, InvalidPrice
from termsonwires.errors import InvalidSheet, InvalidTerm, InvalidThing
from termsonwires.kinds import is_bits, is_integer, is_name, is_plain, is_string, is_within
from termsonwires.terms import is_any_sheet, is_any_term, is_place_of, refs_of, term_of_name

MOST_LENGTH = 60
PRICE_BOUND = 10 ** 12


def need_sheet(value):
    if not is_any_sheet(value):
        raise InvalidSheet("this is no sheet")


def need_term(value):
    if not is_any_term(value) or refs_of(value):
        raise InvalidTerm("this is no term without refs")


def need_name(sheet, value):
    if not is_string(value) or term_of_name(sheet, value) is None:
        raise InvalidName("no entry of the sheet has this name")


def need_new_name(sheet, value):
    if not is_name(value) or term_of_name(sheet, value) is not None:
        raise InvalidName("this is no name that an entry can still get")


def need_place(sheet, value):
    if not is_place_of(sheet, value):
        raise InvalidPlace("this is no place of the sheet")


def need_plain(value):
    if not is_plain(value):
        raise InvalidThing("this is no plain thing")


def need_bits(value):
    if not is_bits(value):
        raise InvalidBits("this is no string of the signs 0 and 1")


def need_at(bits, value):
    if not is_within(value, 0, len(bits)):
        raise InvalidIndex("this is no index from 0 to the number of the bits")


def need_count(value):
    if not is_integer(value) or value < 0:
        raise InvalidCount("this is no integer from 0 on")


def need_length(value):
    if not is_within(value, 0, MOST_LENGTH):
        raise InvalidCount("this is no integer from 0 to 60")


def need_price(value):
    if not is_integer(value) or not -PRICE_BOUND < value < PRICE_BOUND:
        raise InvalidPrice("this is no integer of at most twelve digits")
