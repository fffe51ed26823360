"""The rules by which terms are rewritten: for a part of a term what each of them makes of it."""

from termsonwires.kinds import is_integer
from termsonwires.spelling import digits
from termsonwires.termparts import Part, are_tags_ascending, common_beginning, first_word_of, has_thing, is_leading
from termsonwires.termparts import least_machine, listed_number, outer_indexes, put_together, tags_in, things_in
from termsonwires.termparts import used_integers, wordy_ways
from termsonwires.terms import with_parts


def bits_part(bits):
    return put_together(("bits", bits), [])


def row_part(parts):
    return put_together(("row", tuple([part.term for part in parts])), parts)


def either_part(ways):
    """ways: a list of (label, tag, part)."""
    terms = tuple([(label, tag, part.term) for label, tag, part in ways])
    return put_together(("either", terms), [way[2] for way in ways])


def ways_of(part):
    return [(label, tag, inner) for (label, tag, _), inner in zip(part.term[1], part.parts)]


def is_term_kind(part, word):
    return part.term[0] == word


def is_some_bits(part):
    return is_term_kind(part, "bits") and part.term[1] != ""


def opened_row(part):
    if not is_term_kind(part, "row") or not any([is_term_kind(inner, "row") for inner in part.parts]):
        return None
    parts = []
    for inner in part.parts:
        parts.extend(inner.parts if is_term_kind(inner, "row") else [inner])
    return row_part(parts)


def bits_runs(parts):
    """The parts in lists: each longest run of neighbouring bits terms is one list, each other part is one alone."""
    runs = []
    for k in range(len(parts)):
        if k > 0 and is_term_kind(parts[k], "bits") and is_term_kind(parts[k - 1], "bits"):
            runs[-1].append(parts[k])
        else:
            runs.append([parts[k]])
    return runs


def joined_row(part):
    if not is_term_kind(part, "row"):
        return None
    runs = bits_runs(part.parts)
    if len(runs) == len(part.parts):
        return None
    return row_part([run[0] if len(run) == 1 else bits_part("".join([inner.term[1] for inner in run])) for run in runs])


def row_without_empty(part):
    if not is_term_kind(part, "row"):
        return None
    kept = [inner for inner in part.parts if inner.term != ("bits", "")]
    return row_part(kept) if len(kept) < len(part.parts) else None


def single_part(part):
    return part.parts[0] if is_term_kind(part, "row") and len(part.parts) == 1 else None


def way_as_row(part):
    if not is_term_kind(part, "either") or len(part.parts) != 1:
        return None
    return row_part([bits_part(part.term[1][0][1]), part.parts[0]])


def either_without_dropped(part):
    if not is_term_kind(part, "either") or all([has_thing(inner) for inner in part.parts]):
        return None
    return either_part([way for way in ways_of(part) if has_thing(way[2])])


def bits_ahead(part):
    if not is_leading(part):
        return None
    start = common_beginning(tags_in(part))
    many = len(start)
    if is_term_kind(part, "table"):
        rows = tuple([(atom, bits[many:]) for atom, bits in part.term[1]])
        return row_part([bits_part(start), put_together(("table", rows), [])])
    ways = [(way[0], way[1][many:], inner) for way, inner in wordy_ways(part)]
    return row_part([bits_part(start), either_part(ways)])


def first_bits(part):
    """The bits of a bits term or at the beginning of a row that can go to a tag; "" if there are none."""
    if is_some_bits(part):
        return part.term[1]
    return part.parts[0].term[1] if is_term_kind(part, "row") and part.parts and is_some_bits(part.parts[0]) else ""


def tagged_way(way):
    label, tag, inner = way
    bits = first_bits(inner)
    if bits == "":
        return way
    return (label, tag + bits, row_part(inner.parts[1:]) if is_term_kind(inner, "row") else bits_part(""))


def bits_to_tags(part):
    if not is_term_kind(part, "either") or not any([first_bits(inner) for inner in part.parts]):
        return None
    return either_part([tagged_way(way) for way in ways_of(part)])


def in_order(part):
    if not is_term_kind(part, "either") and not is_term_kind(part, "table") or are_tags_ascending(part.term):
        return None
    if is_term_kind(part, "either"):
        return either_part(sorted(ways_of(part), key=lambda way: way[1]))
    return put_together(("table", tuple(sorted(part.term[1], key=lambda row: row[1]))), [])


def whole_width(part):
    if not is_term_kind(part, "table"):
        return None
    rows = part.term[1]
    for k in range(1, 9):
        if len(rows) == 1 << k and all([is_digits_row(row, k) for row in rows]):
            return put_together(("width", k), [])
    return None


def is_digits_row(row, many):
    atom, bits = row
    return is_integer(atom) and 0 <= atom < 1 << many and digits(atom, many) == bits


def taken_once(part):
    return part.parts[0] if is_term_kind(part, "times") and part.term[1] == 1 else None


def known_number(part):
    if not is_term_kind(part, "counted"):
        return None
    used = used_integers(part)
    if len(used) != 1:
        return None
    items = put_together(("times", used[0], part.parts[1].term), [part.parts[1]])
    return row_part([bits_part(part.numbers[used[0]]), items])


def sure_size(part):
    """Some integer is used, since the part has things; so it is the one length, if there is but one."""
    if not is_term_kind(part, "sized"):
        return None
    used = used_integers(part)
    if part.parts[1].words[0] != 1 << used[0]:
        return None
    return row_part([bits_part(part.numbers[used[0]]), part.parts[1]])


def with_listed_number(part):
    if not is_term_kind(part, "counted") and not is_term_kind(part, "sized"):
        return None
    number = listed_number(part)
    if number == part.term[1]:
        return None
    return put_together((part.term[0], number, part.term[2]), [put_together(number, []), part.parts[1]])


def with_least_machine(part):
    if not is_term_kind(part, "checked"):
        return None
    machine = least_machine(part.term[1])
    return None if machine == part.term[1] else put_together(("checked", machine, part.term[2]), part.parts)


def fixed_check(part):
    if not is_term_kind(part, "checked"):
        return None
    machine = least_machine(part.term[1])
    return row_part([part.parts[0], bits_part(machine[0][2])]) if len(machine) == 1 else None


def void_part(part):
    return None if part.term == ("table", ()) else put_together(("table", ()), [])


def alone_part(part):
    return None if is_term_kind(part, "bits") else bits_part(first_word_of(part))


RULES = {
    "ahead": bits_ahead,
    "alone": alone_part,
    "drop": either_without_dropped,
    "empty": row_without_empty,
    "fixed": fixed_check,
    "join": joined_row,
    "listed": with_listed_number,
    "machine": with_least_machine,
    "number": known_number,
    "once": taken_once,
    "open": opened_row,
    "order": in_order,
    "single": single_part,
    "sure": sure_size,
    "tag": bits_to_tags,
    "void": void_part,
    "way": way_as_row,
    "whole": whole_width,
}
BY_FEW_THINGS = ("void", "alone")


def rules_for(part):
    """The names of the rules that a part with as many things can be rewritten by, ascending."""
    many = things_in(part)
    if many < 2:
        return [BY_FEW_THINGS[many]]
    return [rule for rule in RULES if rule not in BY_FEW_THINGS]


def rewritten_part(part, rule):
    """The part that the rule makes of this one; None if it can not be used."""
    action = RULES[rule]
    return action(part) if rule in rules_for(part) else None


def outer_parts(part):
    """All parts at outer paths with their paths, ascending."""
    found = [((), part)]
    for k in outer_indexes(part):
        found.extend([((k, *path), inner) for path, inner in outer_parts(part.parts[k])])
    return found


def with_part(part, path, new):
    """The whole with the new part at the outer path; its words stay, as those of the part there do."""
    if path == ():
        return new
    parts = list(part.parts)
    parts[path[0]] = with_part(parts[path[0]], path[1:], new)
    return Part(with_parts(part.term, [inner.term for inner in parts]), parts, part.words, part.numbers)


def outer_part_at(part, path):
    """None if this is no outer path."""
    for step in path:
        if step not in outer_indexes(part):
            return None
        part = part.parts[step]
    return part
