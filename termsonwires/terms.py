"""Terms and sheets as values: what they are, their parts, and terms made from terms."""

from termsonwires.kinds import is_ascending, is_atom, is_bits_of, is_name, is_string, is_text, is_tuple, is_tuple_of
from termsonwires.kinds import is_path, is_within

MOST_BITS = 400
MOST_WIDTH = 8
MOST_TIMES = 8
MOST_MARK = 6
MOST_ROWS = 8
MOST_CHECK = 4
MOST_DEPTH = 12


def is_bits_term(value, depth):
    return len(value) == 2 and is_bits_of(value[1], 0, MOST_BITS)


def is_table_row(value):
    return is_tuple_of(value, 2) and is_atom(value[0]) and is_bits_of(value[1], 0, MOST_BITS)


def is_table_term(value, depth):
    if len(value) != 2 or not is_tuple(value[1]) or not all([is_table_row(row) for row in value[1]]):
        return False
    return len({row[0] for row in value[1]}) == len(value[1])


def is_width_term(value, depth):
    return len(value) == 2 and is_within(value[1], 0, MOST_WIDTH)


def is_row_term(value, depth):
    if len(value) != 2 or not is_tuple(value[1]):
        return False
    return all([is_term_within(part, depth - 1) for part in value[1]])


def is_way(value, depth):
    if not is_tuple_of(value, 3) or not is_text(value[0]) or not is_bits_of(value[1], 0, MOST_BITS):
        return False
    return is_term_within(value[2], depth)


def is_either_term(value, depth):
    if len(value) != 2 or not is_tuple(value[1]) or not all([is_way(way, depth - 1) for way in value[1]]):
        return False
    return len({way[0] for way in value[1]}) == len(value[1])


def is_times_term(value, depth):
    return len(value) == 3 and is_within(value[1], 0, MOST_TIMES) and is_term_within(value[2], depth - 1)


def is_two_part_term(value, depth):
    return len(value) == 3 and is_term_within(value[1], depth - 1) and is_term_within(value[2], depth - 1)


def is_until_term(value, depth):
    return len(value) == 3 and is_bits_of(value[1], 1, MOST_MARK) and is_term_within(value[2], depth - 1)


def is_machine_row(value, many):
    if not is_tuple_of(value, 3) or not is_bits_of(value[2], 1, MOST_CHECK):
        return False
    return is_within(value[0], 0, many - 1) and is_within(value[1], 0, many - 1)


def is_machine(value):
    if not is_tuple(value) or not 1 <= len(value) <= MOST_ROWS:
        return False
    if not all([is_machine_row(row, len(value)) for row in value]):
        return False
    return all([len(row[2]) == len(value[0][2]) for row in value])


def is_checked_term(value, depth):
    return len(value) == 3 and is_machine(value[1]) and is_term_within(value[2], depth - 1)


def is_ref_term(value, depth):
    return len(value) == 2 and is_name(value[1])


FORMS = {
    "bits": is_bits_term,
    "table": is_table_term,
    "width": is_width_term,
    "row": is_row_term,
    "either": is_either_term,
    "times": is_times_term,
    "counted": is_two_part_term,
    "until": is_until_term,
    "sized": is_two_part_term,
    "checked": is_checked_term,
    "ref": is_ref_term,
}


def is_term_within(value, depth):
    """The depth bounds the calls, too, however deep a value is that is no term."""
    if depth < 1 or not is_tuple(value) or len(value) < 2 or not is_string(value[0]):
        return False
    form = FORMS.get(value[0])
    return form is not None and form(value, depth)


def is_any_term(value):
    return is_term_within(value, MOST_DEPTH)


def is_entry(value):
    return is_tuple_of(value, 2) and is_name(value[0]) and is_any_term(value[1])


def is_any_sheet(value):
    if not is_tuple_of(value, 2) or not is_tuple(value[1]) or not value[1]:
        return False
    if not all([is_entry(entry) for entry in value[1]]):
        return False
    names = [name for name, _ in value[1]]
    if not is_ascending(names) or not is_string(value[0]) or value[0] not in names:
        return False
    return all([name in names for _, term in value[1] for name in refs_of(term)])


def parts_of(term):
    word = term[0]
    if word == "row":
        return list(term[1])
    if word == "either":
        return [way[2] for way in term[1]]
    if word in ("counted", "sized"):
        return [term[1], term[2]]
    if word in ("times", "until", "checked"):
        return [term[2]]
    return []


def with_parts(term, parts):
    """The term with these parts in the place of its own ones, as many."""
    word = term[0]
    if word == "row":
        return ("row", tuple(parts))
    if word == "either":
        return ("either", tuple([(way[0], way[1], part) for way, part in zip(term[1], parts)]))
    if word in ("counted", "sized"):
        return (word, parts[0], parts[1])
    if word in ("times", "until", "checked"):
        return (word, term[1], parts[0])
    return term


def depth_of(term):
    return 1 + max([depth_of(part) for part in parts_of(term)], default=0)


def refs_of(term):
    """The names in its refs, each as often as it stands there."""
    if term[0] == "ref":
        return [term[1]]
    return [name for part in parts_of(term) for name in refs_of(part)]


def with_refs(term, terms):
    """The term with terms[name] in the place of each ref to a name that stands in terms."""
    if term[0] == "ref":
        return terms.get(term[1], term)
    return with_parts(term, [with_refs(part, terms) for part in parts_of(term)])


def term_at(term, path):
    """None if the path leads to no part."""
    for step in path:
        parts = parts_of(term)
        if step >= len(parts):
            return None
        term = parts[step]
    return term


def with_term_at(term, path, new):
    if not path:
        return new
    parts = parts_of(term)
    parts[path[0]] = with_term_at(parts[path[0]], path[1:], new)
    return with_parts(term, parts)


def paths_of(term):
    """Ascending: a term comes ahead of its parts."""
    paths = [()]
    parts = parts_of(term)
    for k in range(len(parts)):
        paths.extend([(k, *path) for path in paths_of(parts[k])])
    return paths


def term_of_name(sheet, name):
    """None if no entry has the name."""
    for other, term in sheet[1]:
        if other == name:
            return term
    return None


def is_place_of(sheet, value):
    if not is_tuple_of(value, 2) or not is_string(value[0]) or not is_path(value[1]):
        return False
    term = term_of_name(sheet, value[0])
    return term is not None and term_at(term, value[1]) is not None
