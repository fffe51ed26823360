"""Loose texts of sheets, read into values that are sheets but for what concerns two parts together."""

from termsonwires.kinds import TEXT_SIGNS
from termsonwires.scanner import Scanner
from termsonwires.terms import MOST_BITS, MOST_CHECK, MOST_DEPTH, MOST_MARK, MOST_ROWS

SMALL = "012345678"
STATES = "01234567"


def scan_bits_term(scanner, depth):
    return ("bits", scanner.read_bits(0, MOST_BITS))


def scan_width(scanner, depth):
    scanner.read_word("width ")
    return ("width", int(scanner.read_sign(SMALL)))


def scan_ref(scanner, depth):
    scanner.read_sign("@")
    return ("ref", scanner.read_name())


def scan_listed(scanner, brackets, has_room, one):
    """The tuple of what one(scanner) reads again and again, between two brackets; without room it is empty."""
    scanner.read_sign(brackets[0])
    rows = []
    if has_room and not scanner.comes(brackets[1]):
        rows.append(one(scanner))
        while scanner.comes(","):
            scanner.read_word(", ")
            rows.append(one(scanner))
    scanner.read_sign(brackets[1])
    return tuple(rows)


def scan_table_row(scanner):
    atom = scanner.read_atom(TEXT_SIGNS)
    scanner.read_sign(" ")
    return (atom, scanner.read_bits(0, MOST_BITS))


def scan_way(scanner, depth):
    label = scanner.read_quoted(TEXT_SIGNS)
    scanner.read_sign(" ")
    tag = scanner.read_bits(0, MOST_BITS)
    scanner.read_sign(" ")
    return (label, tag, scan_term(scanner, depth))


def scan_machine_row(scanner):
    zero = int(scanner.read_sign(STATES))
    scanner.read_sign(" ")
    one = int(scanner.read_sign(STATES))
    scanner.read_sign(" ")
    return (zero, one, scanner.read_bits(1, MOST_CHECK))


def scan_table(scanner, depth):
    return ("table", scan_listed(scanner, "[]", True, scan_table_row))


def scan_row(scanner, depth):
    return ("row", scan_listed(scanner, "()", depth > 1, lambda inner: scan_term(inner, depth - 1)))


def scan_either(scanner, depth):
    return ("either", scan_listed(scanner, "{}", depth > 1, lambda inner: scan_way(inner, depth - 1)))


def scan_times(scanner, depth):
    scanner.read_word("times ")
    many = int(scanner.read_sign(SMALL))
    scanner.read_sign(" ")
    return ("times", many, scan_term(scanner, depth - 1))


def scan_two_parts(scanner, word, depth):
    """The first sign of the word has been read."""
    scanner.read_word(word[1:])
    scanner.read_sign(" ")
    number = scan_term(scanner, depth - 1)
    scanner.read_sign(" ")
    return (word, number, scan_term(scanner, depth - 1))


def scan_sized(scanner, depth):
    scanner.read_sign("s")
    return scan_two_parts(scanner, "sized", depth)


def scan_until(scanner, depth):
    scanner.read_word("until ")
    mark = scanner.read_bits(1, MOST_MARK)
    scanner.read_sign(" ")
    return ("until", mark, scan_term(scanner, depth - 1))


def scan_counted_or_checked(scanner, depth):
    scanner.read_sign("c")
    if scanner.comes("o"):
        return scan_two_parts(scanner, "counted", depth)
    scanner.read_word("hecked ")
    machine = scan_machine(scanner)
    scanner.read_sign(" ")
    return ("checked", machine, scan_term(scanner, depth - 1))


def scan_machine(scanner):
    """A machine has a row at least, so the closing bracket can not come first."""
    scanner.read_sign("[")
    rows = [scan_machine_row(scanner)]
    while len(rows) < MOST_ROWS and scanner.comes(","):
        scanner.read_word(", ")
        rows.append(scan_machine_row(scanner))
    scanner.read_sign("]")
    return tuple(rows)


FLAT_SCANS = {'"': scan_bits_term, "[": scan_table, "w": scan_width, "@": scan_ref, "(": scan_row, "{": scan_either}
DEEP_SCANS = {"t": scan_times, "s": scan_sized, "u": scan_until, "c": scan_counted_or_checked}


def scan_term(scanner, depth):
    """A term of at most this depth, from 1 on."""
    scan = FLAT_SCANS.get(scanner.ahead())
    if scan is None and depth > 1:
        scan = DEEP_SCANS.get(scanner.ahead())
    if scan is None:
        scanner.refuse()
    return scan(scanner, depth)


def scan_entry(scanner):
    name = scanner.read_name()
    scanner.read_word(" = ")
    term = scan_term(scanner, MOST_DEPTH)
    scanner.read_sign("\n")
    return (name, term)


def scan_sheet(text):
    scanner = Scanner(text)
    scanner.read_word("root ")
    root = scanner.read_name()
    scanner.read_sign("\n")
    entries = [scan_entry(scanner)]
    while scanner.ahead() != "":
        entries.append(scan_entry(scanner))
    return (root, tuple(entries))
