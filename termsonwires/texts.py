"""Plain things and sheets written as texts, and read from them."""

from termsonwires.demands import need_plain, need_sheet
from termsonwires.errors import InvalidSheet
from termsonwires.kinds import DEEPEST, TEXT_SIGNS
from termsonwires.scanner import Scanner
from termsonwires.sheetscan import scan_sheet
from termsonwires.terms import is_any_sheet
from termsonwires.thingtexts import atom_text, text_of


def thing_text(plain):
    """The text of a plain thing."""
    need_plain(plain)
    return text_of(plain)


def thing_of(text):
    """The plain thing with this text."""
    scanner = Scanner(text)
    thing = scanner.read_thing(TEXT_SIGNS, DEEPEST)
    scanner.read_end()
    return thing


def bits_text(bits):
    return f'"{bits}"'


def machine_text(machine):
    return ", ".join([f"{zero} {one} {bits_text(check)}" for zero, one, check in machine])


def row_text(row):
    return f"{atom_text(row[0])} {bits_text(row[1])}"


def way_text(way):
    return f"{atom_text(way[0])} {bits_text(way[1])} {term_text(way[2])}"


def term_text(term):
    word = term[0]
    if word == "bits":
        return bits_text(term[1])
    if word == "table":
        return "[" + ", ".join([row_text(row) for row in term[1]]) + "]"
    if word == "row":
        return "(" + ", ".join([term_text(part) for part in term[1]]) + ")"
    if word == "either":
        return "{" + ", ".join([way_text(way) for way in term[1]]) + "}"
    if word in ("counted", "sized"):
        return f"{word} {term_text(term[1])} {term_text(term[2])}"
    if word == "times":
        return f"times {term[1]} {term_text(term[2])}"
    if word == "until":
        return f"until {bits_text(term[1])} {term_text(term[2])}"
    if word == "checked":
        return f"checked [{machine_text(term[1])}] {term_text(term[2])}"
    return f"width {term[1]}" if word == "width" else f"@{term[1]}"


def sheet_text(sheet):
    """The text of a sheet."""
    need_sheet(sheet)
    rows = [f"root {sheet[0]}"] + [f"{name} = {term_text(term)}" for name, term in sheet[1]]
    return "".join([row + "\n" for row in rows])


def sheet_of(text):
    """The sheet with this text."""
    sheet = scan_sheet(text)
    if not is_any_sheet(sheet):
        raise InvalidSheet("this is the text of no sheet")
    return sheet
