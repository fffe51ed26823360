"""The errors that functions raise for their parameters, one demand for each kind of parameter."""

from termsonwires.automata import is_least_acceptor
from termsonwires.chartforms import is_clean_chart
from termsonwires.errors import InvalidAcceptor, InvalidBits, InvalidChart, InvalidCount, InvalidDamage, InvalidHoled
from termsonwires.errors import InvalidIndex, InvalidMap, InvalidName, InvalidPlace, InvalidPrice, InvalidSheet
from termsonwires.errors import InvalidState, InvalidTable, InvalidTeller, InvalidTerm, InvalidThing
from termsonwires.heighttables import is_height_table_of
from termsonwires.kinds import is_bits, is_integer, is_name, is_plain, is_string, is_within
from termsonwires.mapforms import is_any_map
from termsonwires.speech import is_least_teller_value
from termsonwires.terms import is_any_sheet, is_any_term, is_place_of, refs_of, term_of_name

MOST_LENGTH = 60
MOST_LISTED = 12
PRICE_BOUND = 10 ** 12
DAMAGES = ("flip", "lose", "put 0", "put 1")


def need_sheet(value):
    if not is_any_sheet(value):
        raise InvalidSheet("this is no sheet")


def need_term(value):
    if not is_any_term(value) or refs_of(value):
        raise InvalidTerm("this is no term without refs")


def need_name(sheet, value):
    if not is_string(value) or term_of_name(sheet, value) is None:
        raise InvalidName("no entry of the sheet has this name")


def need_new_name(sheet, value):
    if not is_name(value) or term_of_name(sheet, value) is not None:
        raise InvalidName("this is no name that an entry can still get")


def need_place(sheet, value):
    if not is_place_of(sheet, value):
        raise InvalidPlace("this is no place of the sheet")


def need_plain(value):
    if not is_plain(value):
        raise InvalidThing("this is no plain thing")


def need_bits(value):
    if not is_bits(value):
        raise InvalidBits("this is no string of the signs 0 and 1")


def need_bit(value):
    if not is_string(value) or value not in ("0", "1"):
        raise InvalidBits("this is none of the signs 0 and 1")


def need_at(bits, value):
    if not is_within(value, 0, len(bits)):
        raise InvalidIndex("this is no index from 0 to the number of the bits")


def need_count(value):
    if not is_integer(value) or value < 0:
        raise InvalidCount("this is no integer from 0 on")


def need_length(value):
    if not is_within(value, 0, MOST_LENGTH):
        raise InvalidCount("this is no integer from 0 to 60")


def need_few_bits(value):
    if not is_within(value, 0, MOST_LISTED):
        raise InvalidCount("this is no integer from 0 to 12")


def need_price(value):
    if not is_integer(value) or not -PRICE_BOUND < value < PRICE_BOUND:
        raise InvalidPrice("this is no integer of at most twelve digits")


def need_acceptor(value):
    if not is_least_acceptor(value):
        raise InvalidAcceptor("this is no least acceptor")


def need_teller(value):
    if not is_least_teller_value(value):
        raise InvalidTeller("this is no least teller")


def need_state(acceptor, value):
    if not is_within(value, 0, len(acceptor) - 1):
        raise InvalidState("this is no state of the acceptor")


def need_open_state(acceptor, value):
    need_state(acceptor, value)
    if acceptor[value][2] != "open":
        raise InvalidState("this state is not open")


def need_holed(value):
    if not is_string(value) or value.strip("01?") != "":
        raise InvalidHoled("this is no string of the signs 0, 1 and ?")


def need_table(acceptor, value):
    if not is_height_table_of(acceptor, value):
        raise InvalidTable("this is no height table of the acceptor that holds")


def need_damage(value):
    if not is_string(value) or value not in DAMAGES:
        raise InvalidDamage("this is none of the words flip, lose, put 0, put 1")


def need_damage_index(bits, damage, value):
    """A bit may be put in behind the last one."""
    most = len(bits) if damage.startswith("put") else len(bits) - 1
    if not is_within(value, 0, most):
        raise InvalidIndex("this is no index at which the bits can have the damage")


def need_map(value):
    if not is_any_map(value):
        raise InvalidMap("this is no map")


def need_chart(value):
    if not is_clean_chart(value):
        raise InvalidChart("this is no clean chart")
