"""Which values are terms and sheets, and the places of a sheet."""

from termsonwires.demands import need_place, need_sheet
from termsonwires.terms import is_any_sheet, is_any_term, paths_of, term_at, term_of_name


def is_term(value):
    """Its refs may have any name."""
    return is_any_term(value)


def is_sheet(value):
    return is_any_sheet(value)


def places(sheet):
    """The ascending list of the places of the sheet."""
    need_sheet(sheet)
    return [(name, path) for name, term in sheet[1] for path in paths_of(term)]


def part(sheet, place):
    """The term at the place."""
    need_sheet(sheet)
    need_place(sheet, place)
    return term_at(term_of_name(sheet, place[0]), place[1])
